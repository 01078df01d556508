/- Plain facts, of no program: trees with ranks and skew binomial heaps of things of any type that has a key, by which alone they are told apart: what is put in, melded, taken out; which things there are, heap order, ranks, sizes, how many links. No conditions beyond what each theorem says. -/
import Derived.Test.YtmeodbjlmjpnbaaGreatPa
import Derived.Test.YtmeodbjlmjpnbaaGreatProg
import Derived.Lib.Hide
import Derived.WalkKit
import Derived.WalkLawsBesides
import Derived.Outline
import Derived.Deep.QuietTactic
import Derived.BigQuiet
import Derived.LoopTactic
import Derived.Shelf.Abstract
import Derived.Shelf.RegionOpen
import Derived.OwnWalkIn
import Derived.TacticsInMore
import Derived.LoopNIn
import Derived.LoopIn
import Derived.Deep.RegionHeld3
import Derived.Deep.DrawnRows
import Derived.StillTailTactics
import Derived.Defers
import Derived.Recover
import Derived.Deep.LoopGhost
import Derived.Deep.AppendLies
set_option maxRecDepth 100000
set_option maxHeartbeats 4000000
namespace Go.Proofs.YtmeodbjlmjpnbaaGreat.U.Gn
open Go.Sort Go.RowKit
class Key (α : Type) where
 key : α→Int×Int
section
variable {α : Type}[Key α]
def rW (a b : α):Bool:=dH (Key.key a) (Key.key b)
theorem sj (a : α):rW a a=false:=qA.irrefl _
theorem nM (a b c : α)(h1:rW a b=false)(h2:rW b c=false):rW a c=false:=qA.ntrans _ _ _ h1 h2
theorem xN {a b : α}(h:rW a b=true):rW b a=false:=by
 unfold rW at *;rw [ku]at h;rw [iA];omega
end
inductive ay (α : Type)
 | nil
 | cons (x : α) (bs:List α) (ks rest:ay α)
structure ai (α : Type) where
 x : α
 bs:List α
 ks:ay α
def ay.len {α : Type}:ay α→Nat
 | .nil=>0
 | .cons _ _ _ r=>r.len+1
def ay.size {α : Type}:ay α→Nat
 | .nil=>0
 | .cons _ bs ks r=>1+bs.length+ks.size+r.size
def ay.all {α : Type}:ay α→List α
 | .nil=>[]
 | .cons x bs ks r=>(x::(bs++ks.all))++r.all
def ai.rank {α : Type}(t:ai α):Nat:=t.ks.len
def ai.size {α : Type}(t:ai α):Nat:=1+t.bs.length+t.ks.size
def ai.all {α : Type}(t:ai α):List α:=t.x::(t.bs++t.ks.all)
theorem ay.fE {α : Type}:∀w:ay α,w.len≤w.size
 | .nil=>Nat.le_refl _
 | .cons _ _ _ r=>by have:=r.fE;simp only [ay.len,ay.size];omega
theorem ay.aD {α : Type}:∀w:ay α,w.all.length=w.size
 | .nil=>rfl
 | .cons x bs ks r=>by simp only [ay.all,ay.size,List.length_append,List.length_cons,ks.aD,r.aD];omega
theorem ai.aD {α : Type}(t:ai α):t.all.length=t.size:=by simp only [ai.all,ai.size,List.length_append,List.length_cons,t.ks.aD];omega
theorem ai.wz {α : Type}(t:ai α):t.rank<t.size:=by have:=t.ks.fE;simp only [ai.rank,ai.size];omega
def fu {α : Type}[Key α](a b:ai α):ai α:=if rW b.x a.x then ⟨b.x,b.bs,.cons a.x a.bs a.ks b.ks⟩ else ⟨a.x,a.bs,.cons b.x b.bs b.ks a.ks⟩
def pE {α : Type}[Key α](y : α)(t:ai α):ai α:=if rW t.x y then ⟨t.x,y::t.bs,t.ks⟩ else ⟨y,t.x::t.bs,t.ks⟩
def bY {α : Type}(x : α):ai α:=⟨x,[],.nil⟩
theorem y9 {α : Type}[Key α]{a b:ai α}(h:rW b.x a.x=true):fu a b=⟨b.x,b.bs,.cons a.x a.bs a.ks b.ks⟩:=by unfold fu;rw [if_pos h]
theorem zi {α : Type}[Key α]{a b:ai α}(h:rW b.x a.x=false):fu a b=⟨a.x,a.bs,.cons b.x b.bs b.ks a.ks⟩:=by unfold fu;rw [if_neg (by rw [h];simp)]
theorem zK {α : Type}[Key α]{y : α}{t:ai α}(h:rW t.x y=true):pE y t=⟨t.x,y::t.bs,t.ks⟩:=by unfold pE;rw [if_pos h]
theorem yR {α : Type}[Key α]{y : α}{t:ai α}(h:rW t.x y=false):pE y t=⟨y,t.x::t.bs,t.ks⟩:=by unfold pE;rw [if_neg (by rw [h];simp)]
theorem jJ {α : Type}[Key α](a b:ai α):(fu a b).size=a.size+b.size:=by unfold fu;split<;>simp [ai.size,ay.size]<;>omega
theorem wG {α : Type}[Key α](y : α)(t:ai α):(pE y t).size=t.size+1:=by unfold pE;split<;>simp [ai.size]<;>omega
theorem jI {α : Type}(x : α):(bY x).size=1:=rfl
def ay.list {α : Type}:ay α→List (ai α)
 | .nil=>[]
 | .cons x bs ks r=>⟨x,bs,ks⟩::r.list
def aR {α : Type}:List (ai α)→List α
 | []=>[]
 | t::r=>t.all++aR r
def ah {α : Type}:List (ai α)→Nat
 | []=>0
 | t::r=>t.size+ah r
def dx {α : Type}[Key α]:List (ai α)→ai α→List (ai α)
 | [],t=>[t]
 | u::r,t=>if t.rank<u.rank then t::u::r else dx r (fu t u)
def bg {α : Type}[Key α]:List (ai α)→ai α→Nat
 | [],_=>0
 | u::r,t=>if t.rank<u.rank then 0 else 1+bg r (fu t u)
def aP {α : Type}[Key α](a b:List (ai α)):List (ai α):=match a,b with
 | [],b=>b
 | f::a,[]=>f::a
 | f::a,g::b=>if f.rank<g.rank then f::aP a (g::b) else if g.rank<f.rank then g::aP (f::a) b else dx (aP a b) (fu f g)
termination_by a.length+b.length
decreasing_by all_goals (simp only [List.length_cons];omega)
def aI {α : Type}[Key α](a b:List (ai α)):Nat:=match a,b with
 | [],_=>0
 | _::_,[]=>0
 | f::a,g::b=>if f.rank<g.rank then aI a (g::b) else if g.rank<f.rank then aI (f::a) b else 1+aI a b+bg (aP a b) (fu f g)
termination_by a.length+b.length
decreasing_by all_goals (simp only [List.length_cons];omega)
def bq {α : Type}[Inhabited α](l:List (ai α))(i:Nat) : α:=match l[i]? with
 | some t=>t.x
 | none=>default
def cK {α : Type}[Key α][Inhabited α](l:List (ai α)):Nat→Nat
 | 0=>0
 | k+1=>if rW (bq l (k+1)) (bq l (cK l k))=true then k+1 else cK l k
def ak {α : Type}[Key α][Inhabited α](l:List (ai α)):Nat:=cK l (l.length - 1)
def qY {α : Type}[Key α][Inhabited α]:List (ai α)→α×Bool
 | []=>(default,false)
 | t::r=>(bq (t::r) (ak (t::r)),true)
def aO {α : Type}(l:List (ai α))(i:Nat):List (ai α):=match l[i]? with
 | some t=>t.ks.list.reverse
 | none=>[]
def aK {α : Type}(l:List (ai α))(i:Nat):List (ai α):=l.take i++l.drop (i+1)
theorem eU {α : Type}[Key α](b:List (ai α)):aP [] b=b:=by unfold aP;rfl
theorem dM {α : Type}[Key α](a:List (ai α)):aP a []=a:=by cases a<;>(unfold aP;rfl)
theorem iE {α : Type}[Key α]{f g:ai α}{a b:List (ai α)}(h:f.rank<g.rank):aP (f::a) (g::b)=f::aP a (g::b):=by rw [aP,if_pos h]
theorem iK {α : Type}[Key α]{f g:ai α}{a b:List (ai α)}(h:g.rank<f.rank):aP (f::a) (g::b)=g::aP (f::a) b:=by rw [aP,if_neg (by omega),if_pos h]
theorem iD {α : Type}[Key α]{f g:ai α}{a b:List (ai α)}(h:f.rank=g.rank):aP (f::a) (g::b)=dx (aP a b) (fu f g):=by rw [aP,if_neg (by omega),if_neg (by omega)]
theorem iH {α : Type}[Key α](b:List (ai α)):aI [] b=0:=by unfold aI;rfl
theorem gq {α : Type}[Key α](a:List (ai α)):aI a []=0:=by cases a<;>(unfold aI;rfl)
theorem jR {α : Type}[Key α]{f g:ai α}{a b:List (ai α)}(h:f.rank<g.rank):aI (f::a) (g::b)=aI a (g::b):=by rw [aI,if_pos h]
theorem kP {α : Type}[Key α]{f g:ai α}{a b:List (ai α)}(h:g.rank<f.rank):aI (f::a) (g::b)=aI (f::a) b:=by rw [aI,if_neg (by omega),if_pos h]
theorem jO {α : Type}[Key α]{f g:ai α}{a b:List (ai α)}(h:f.rank=g.rank):aI (f::a) (g::b)=1+aI a b+bg (aP a b) (fu f g):=by rw [aI,if_neg (by omega),if_neg (by omega)]
theorem gW {α : Type}{P:List (ai α)→List (ai α)→Prop}(h1:∀b,P [] b)(h2:∀f a,P (f::a) [])
  (h3:∀f a g b,f.rank<g.rank→P a (g::b)→P (f::a) (g::b)) (h4:∀f a g b,g.rank<f.rank→P (f::a) b→P (f::a) (g::b))
  (h5:∀f a g b,f.rank=g.rank→P a b→P (f::a) (g::b)):∀a b,P a b:=by
 have key:∀(n:Nat) (a b:List (ai α)),a.length+b.length=n→P a b:=by
  intro n;induction n using Nat.strongRecOn with
  | ind n ih =>
   intro a b hn;match a,b with
   | [],b=>exact h1 b
   | f::a,[]=>exact h2 f a
   | f::a,g::b =>
    simp only [List.length_cons]at hn;rcases Nat.lt_trichotomy f.rank g.rank with h|h|h
    ·exact h3 f a g b h (ih (a.length+(g::b).length) (by simp only [List.length_cons];omega) _ _ rfl)
    ·exact h5 f a g b h (ih (a.length+b.length) (by omega) _ _ rfl)
    ·exact h4 f a g b h (ih ((f::a).length+b.length) (by simp only [List.length_cons];omega) _ _ rfl)
 exact fun a b=>key _ a b rfl
theorem qD {α : Type}[Key α](a b:ai α):(fu a b).all.Perm (a.all++b.all):=by
 unfold fu;split
 ·simp only [ai.all,ay.all];refine List.Perm.trans ?_ List.perm_append_comm;simp only [List.cons_append,List.append_assoc];refine List.Perm.cons _ (List.Perm.append_left _ ?_);have:=List.perm_append_comm (l₁:=a.x::(a.bs++a.ks.all)) (l₂:=b.ks.all);simpa using this
 ·simp only [ai.all,ay.all];simp only [List.cons_append,List.append_assoc];refine List.Perm.cons _ (List.Perm.append_left _ ?_);have:=List.perm_append_comm (l₁:=b.x::(b.bs++b.ks.all)) (l₂:=a.ks.all);simpa using this
theorem lu {α : Type}[Key α]:∀(l:List (ai α)) (t:ai α),(aR (dx l t)).Perm (t.all++aR l)
 | [],t=>by simp [dx,aR]
 | u::r,t=>by
  unfold dx;split
  ·exact List.Perm.refl _
  ·refine (lu r (fu t u)).trans ?_;simp only [aR];rw [←List.append_assoc];exact (qD t u).append_right _
theorem ji {α : Type}[Key α]:∀a b:List (ai α),(aR (aP a b)).Perm (aR a++aR b):=by
 refine gW ?_ ?_ ?_ ?_ ?_
 ·intro b;rw [eU];exact List.Perm.refl _
 ·intro f a;rw [dM];simp [aR]
 ·intro f a g b h ih;rw [iE h];simp only [aR,List.append_assoc]at ih ⊢;exact ih.append_left _
 ·intro f a g b h ih;rw [iK h];simp only [aR,List.append_assoc]at ih ⊢;refine (ih.append_left _).trans ?_;rw [←List.append_assoc,←List.append_assoc,←List.append_assoc,←List.append_assoc];refine List.Perm.append_right _ ?_;rw [List.append_assoc];exact List.perm_append_comm
 ·intro f a g b h ih;rw [iD h];refine (lu _ _).trans ?_;refine ((qD f g).append ih).trans ?_;simp only [aR,List.append_assoc];refine List.Perm.append_left _ ?_;rw [←List.append_assoc,←List.append_assoc];exact List.perm_append_comm.append_right _
theorem aG {α : Type}:∀l:List (ai α),(aR l).length=ah l
 | []=>rfl
 | t::r=>by simp only [aR,ah,List.length_append,t.aD,aG r]
theorem fe {α : Type}[Key α](a b:List (ai α)):ah (aP a b)=ah a+ah b:=by
 have h:=(ji a b).length_eq;rw [aG,List.length_append,aG,aG]at h;exact h
theorem nG {α : Type}[Key α]:∀(l:List (ai α)) (t:ai α),(dx l t).length+bg l t=l.length+1
 | [],t=>rfl
 | u::r,t=>by
  unfold dx bg;split
  ·simp
  ·have:=nG r (fu t u);simp only [List.length_cons];omega
theorem kH {α : Type}[Key α]:∀a b:List (ai α),(aP a b).length+aI a b=a.length+b.length:=by
 refine gW ?_ ?_ ?_ ?_ ?_
 ·intro b;rw [eU,iH];simp
 ·intro f a;rw [dM,gq];simp
 ·intro f a g b h ih;rw [iE h,jR h];simp only [List.length_cons]at *;omega
 ·intro f a g b h ih;rw [iK h,kP h];simp only [List.length_cons]at *;omega
 ·intro f a g b h ih;rw [iD h,jO h];have:=nG (aP a b) (fu f g);simp only [List.length_cons]at *;omega
def ay.hok {α : Type}[Key α]:ay α→Prop
 | .nil=>True
 | .cons x bs ks r=>(∀e∈bs++ks.all,rW e x=false)∧ks.hok∧r.hok
def ai.hok {α : Type}[Key α](t:ai α):Prop:=(∀e∈t.bs++t.ks.all,rW e t.x=false)∧t.ks.hok
theorem ai.hok.le {α : Type}[Key α]{t:ai α}(h:t.hok){e : α}(he:e∈t.all):rW e t.x=false:=by
 rcases List.mem_cons.1 he with rfl|he
 ·exact sj _
 ·exact h.1 e he
theorem jm {α : Type}[Key α]{a b:ai α}(ha:a.hok)(hb:b.hok):(fu a b).hok:=by
 unfold fu;split
 next hv =>
  have hv':rW a.x b.x=false:=xN hv;refine ⟨fun e he=>?_,⟨ha.1,ha.2,hb.2⟩⟩;simp only [ay.all]at he;rcases List.mem_append.1 he with he|he
  ·exact hb.1 e (List.mem_append.2 (.inl he))
  ·rcases List.mem_append.1 he with he|he
   ·exact nM _ _ _ (ha.le he) hv'
   ·exact hb.1 e (List.mem_append.2 (.inr he))
 next hv =>
  have hv':rW b.x a.x=false:=by simpa using hv
  refine ⟨fun e he=>?_,⟨hb.1,hb.2,ha.2⟩⟩;simp only [ay.all]at he;rcases List.mem_append.1 he with he|he
  ·exact ha.1 e (List.mem_append.2 (.inl he))
  ·rcases List.mem_append.1 he with he|he
   ·exact nM _ _ _ (hb.le he) hv'
   ·exact ha.1 e (List.mem_append.2 (.inr he))
theorem fA {α : Type}[Key α]{a b:ai α}(h:a.rank=b.rank):(fu a b).rank=a.rank+1:=by
 unfold fu;split<;>simp only [ai.rank,ay.len]at h ⊢ <;> omega
theorem oN {α : Type}[Key α](x : α):(bY x).hok:=⟨by simp [bY,ay.all],trivial⟩
theorem ay.lF {α : Type}:∀w:ay α,w.list.length=w.len
 | .nil=>rfl
 | .cons _ _ _ r=>by simp only [ay.list,ay.len,List.length_cons,r.lF]
theorem ay.nE {α : Type}:∀w:ay α,aR w.list=w.all
 | .nil=>rfl
 | .cons x bs ks r=>by simp only [ay.list,aR,ay.all,ai.all,r.nE]
theorem ay.lK {α : Type}[Key α]:∀{w:ay α},w.hok → ∀t∈w.list,t.hok
 | .nil,_,_,ht=>by simp [ay.list]at ht
 | .cons x bs ks r,h,t,ht=>by
  rcases List.mem_cons.1 ht with rfl|ht
  ·exact ⟨h.1,h.2.1⟩
  ·exact ay.lK h.2.2 t ht
theorem iW {α : Type}(a b:List (ai α)):aR (a++b)=aR a++aR b:=by
 induction a with
 | nil=>rfl
 | cons t r ih=>simp only [List.cons_append,aR,ih,List.append_assoc]
theorem jc {α : Type}:∀l:List (ai α),(aR l.reverse).Perm (aR l)
 | []=>List.Perm.refl _
 | t::r=>by
  rw [List.reverse_cons,iW];simp only [aR,List.append_nil];exact ((jc r).append_right _).trans List.perm_append_comm
theorem uH {α : Type}{l:List (ai α)}{e : α}(h:e∈aR l):∃t∈l,e∈t.all:=by
 induction l with
 | nil=>cases h
 | cons u r ih =>
  rcases List.mem_append.1 h with h|h
  ·exact ⟨u,by simp,h⟩
  ·obtain ⟨t,ht,he⟩:=ih h;exact ⟨t,by simp [ht],he⟩
theorem mO {α : Type}[Key α][Inhabited α](l:List (ai α)):∀k,cK l k≤k
 | 0=>Nat.le_refl _
 | k+1=>by unfold cK;split;exact Nat.le_refl _;have:=mO l k;omega
theorem iB {α : Type}[Key α][Inhabited α](l:List (ai α)):∀k i,i≤k→rW (bq l i) (bq l (cK l k))=false
 | 0,i,hi=>by
  obtain rfl:i=0:=by omega
  exact sj _
 | k+1,i,hi=>by
  unfold cK;split
  next h =>
   by_cases e:i=k+1
   ·subst e;exact sj _
   ·have h1:=iB l k i (by omega);have h2:rW (bq l (cK l k)) (bq l (k+1))=false:=xN h;exact nM _ _ _ h1 h2
  next h =>
   by_cases e:i=k+1
   ·subst e;simpa using h
   ·exact iB l k i (by omega)
theorem dz {α : Type}[Key α][Inhabited α]{l:List (ai α)}(h:l≠[]):ak l<l.length:=by
 have:=mO l (l.length - 1);have:0<l.length:=List.length_pos_iff.2 h;unfold ak;omega
theorem eH {α : Type}{l:List (ai α)}{i:Nat}(h:i<l.length):(aR l).Perm (l[i].all++aR (aK l i)):=by
 have e:l=l.take i++l[i]::l.drop (i+1):=by rw [List.getElem_cons_drop,List.take_append_drop]
 have h1:aR l=aR (l.take i)++(l[i].all++aR (l.drop (i+1))):=by
  conv=>lhs;rw [e]
  rw [iW];rfl
 rw [h1,aK,iW,←List.append_assoc,←List.append_assoc];exact List.perm_append_comm.append_right _
theorem dY {α : Type}{l:List (ai α)}{i:Nat}{t:ai α}(h:t∈aK l i):t∈l:=by
 rcases List.mem_append.1 h with h|h
 ·exact List.mem_of_mem_take h
 ·exact List.mem_of_mem_drop h
theorem lY {α : Type}{l:List (ai α)}{i:Nat}(h:l.Pairwise (fun a b=>a.rank<b.rank)):(aK l i).Pairwise (fun a b=>a.rank<b.rank):=by
 refine List.Pairwise.sublist ?_ h;have:(l.take i++l.drop (i+1)).Sublist (l.take i++l.drop i):=List.Sublist.append (List.Sublist.refl _) (by rw [←List.drop_drop];exact List.drop_sublist _ _);rwa [List.take_append_drop]at this
theorem rH {α : Type}{l:List (ai α)}{t:ai α}(h:t∈l):t.size≤ah l:=by
 induction l with
 | nil=>cases h
 | cons u r ih =>
  simp only [ah];rcases List.mem_cons.1 h with rfl|h
  ·omega
  ·have:=ih h;omega
theorem rV {α : Type}{h:List (ai α)}(hz:ah h=0):h=[]:=by
 cases h with
 | nil=>rfl
 | cons t r=>simp only [ah,ai.size]at hz;omega
def dF {α : Type}[Key α]:List (ai α)→List (ai α)
 | []=>[]
 | t::r=>dx r t
def gT {α : Type}[Key α]:List (ai α)→Nat
 | []=>0
 | t::r=>bg r t
def tq {α : Type}[Key α](x : α)(f g:ai α):ai α:=pE x (fu f g)
def dQ {α : Type}[Key α]:List (ai α)→α→List (ai α)
 | f::g::r,x=>if f.rank=g.rank then tq x f g::r else bY x::f::g::r
 | h,x=>bY x::h
def eX {α : Type}:List (ai α)→Nat
 | f::g::_=>if f.rank=g.rank then 2 else 0
 | _=>0
def eG {α : Type}:List (ai α)→Nat
 | f::g::_=>if f.rank=g.rank then 2 else 1
 | _=>1
def mX {α : Type}[Key α]:List (ai α)→List α→Nat
 | _,[]=>0
 | h,x::r=>eX h+mX (dQ h x) r
def nA {α : Type}[Key α]:List (ai α)→List α→Nat
 | _,[]=>0
 | h,x::r=>eG h+nA (dQ h x) r
def nu {α : Type}[Key α](a b:List (ai α)):List (ai α):=aP (dF a) (dF b)
def fO {α : Type}[Key α](a b:List (ai α)):Nat:=gT a+gT b+aI (dF a) (dF b)
def dB {α : Type}(l:List (ai α))(i:Nat):List α:=match l[i]? with
 | some t=>t.bs
 | none=>[]
def cu {α : Type}[Key α](l:List (ai α))(i:Nat):List (ai α):=aP (aO l i) (dF (aK l i))
def dR {α : Type}[Key α](l:List (ai α))(i:Nat):Nat:=gT (aK l i)+aI (aO l i) (dF (aK l i))
def nK {α : Type}[Key α][Inhabited α]:List (ai α)→List (ai α)
 | []=>[]
 | t::r=>(dB (t::r) (ak (t::r))).foldl dQ (cu (t::r) (ak (t::r)))
def qG {α : Type}[Key α][Inhabited α]:List (ai α)→Nat
 | []=>0
 | t::r=>dR (t::r) (ak (t::r))+mX (cu (t::r) (ak (t::r))) (dB (t::r) (ak (t::r)))
def qH {α : Type}[Key α][Inhabited α]:List (ai α)→Nat
 | []=>0
 | t::r=>dR (t::r) (ak (t::r))+nA (cu (t::r) (ak (t::r))) (dB (t::r) (ak (t::r)))
theorem mK {α : Type}[Key α]{f g:ai α}{r:List (ai α)}(x : α)(h:f.rank=g.rank):dQ (f::g::r) x=tq x f g::r:=by show (if f.rank=g.rank then tq x f g::r else bY x::f::g::r)=_;rw [if_pos h]
theorem mM {α : Type}[Key α]{f g:ai α}{r:List (ai α)}(x : α)(h:f.rank≠g.rank):dQ (f::g::r) x=bY x::f::g::r:=by show (if f.rank=g.rank then tq x f g::r else bY x::f::g::r)=_;rw [if_neg h]
theorem mV {α : Type}(h:List (ai α)):eX h≤2:=by
 unfold eX;split
 ·split<;>omega
 ·omega
theorem nQ {α : Type}(h:List (ai α)):eG h≤2∧eX h≤eG h:=by
 match h with
 | []=>exact ⟨by simp [eG],by simp [eX,eG]⟩
 | [f]=>exact ⟨by simp [eG],by simp [eG,eX]⟩
 | f::g::r =>
  show (if f.rank=g.rank then 2 else 1)≤2∧(if f.rank=g.rank then 2 else 0)≤(if f.rank=g.rank then 2 else 1);split<;>exact ⟨by omega,by omega⟩
theorem zq {α : Type}[Key α](y : α)(t:ai α):(pE y t).all.Perm (y::t.all):=by
 unfold pE;split
 ·simp only [ai.all,List.cons_append];exact List.Perm.swap _ _ _
 ·exact List.Perm.refl _
theorem zH {α : Type}[Key α](x : α)(f g:ai α):(tq x f g).all.Perm (x::(f.all++g.all)):=(zq x _).trans (List.Perm.cons x (qD f g))
theorem wO {α : Type}[Key α](x : α)(f g:ai α):(tq x f g).size=f.size+g.size+1:=by unfold tq;rw [wG,jJ]
theorem kR {α : Type}[Key α]:∀l:List (ai α),(aR (dF l)).Perm (aR l)
 | []=>List.Perm.refl _
 | t::r=>lu r t
theorem lQ {α : Type}[Key α](l:List (ai α)):ah (dF l)=ah l:=by
 have:=(kR l).length_eq;rwa [aG,aG]at this
theorem nN {α : Type}[Key α]:∀l:List (ai α),(dF l).length+gT l=l.length
 | []=>rfl
 | t::r=>nG r t
theorem iR {α : Type}[Key α](h:List (ai α))(x : α):(aR (dQ h x)).Perm (x::aR h):=by
 match h with
 | []=>exact List.Perm.refl _
 | [f]=>exact List.Perm.refl _
 | f::g::r =>
  by_cases e:f.rank=g.rank
  ·rw [mK x e];simp only [aR];rw [←List.append_assoc,←List.cons_append];exact (zH x f g).append_right _
  ·rw [mM x e];exact List.Perm.refl _
theorem uQ {α : Type}[Key α](h:List (ai α))(x : α):ah (dQ h x)=ah h+1:=by
 have:=(iR h x).length_eq;rwa [aG,List.length_cons,aG]at this
theorem mR {α : Type}[Key α]:∀(l:List α) (h:List (ai α)),(aR (l.foldl dQ h)).Perm (aR h++l)
 | [],h=>by simp
 | x::r,h=>by
  refine (mR r (dQ h x)).trans ?_;refine ((iR h x).append_right r).trans ?_;simp only [List.cons_append];exact List.perm_middle.symm
theorem qQ {α : Type}[Key α]:∀(l:List α) (h:List (ai α)),mX h l≤2*l.length∧nA h l≤2*l.length
 | [],_=>⟨Nat.le_refl _,Nat.le_refl _⟩
 | x::r,h=>by
  have h1:=qQ r (dQ h x);have h2:=mV h;have h3:=nQ h;simp only [mX,nA,List.length_cons];omega
theorem mQ {α : Type}[Key α](a b:List (ai α)):(aR (nu a b)).Perm (aR a++aR b):=(ji _ _).trans ((kR a).append (kR b))
theorem Cy {α : Type}[Key α](a b:List (ai α)):fO a b≤a.length+b.length:=by
 have h1:=nN a;have h2:=nN b;have h3:=kH (dF a) (dF b);unfold fO;omega
def ay.sk {α : Type}:ay α→Prop
 | .nil=>True
 | .cons _ bs ks r=>bs.length≤ks.len∧ks.len=r.len∧ks.sk∧r.sk
def ai.sk {α : Type}(t:ai α):Prop:=t.bs.length≤t.rank∧t.ks.sk
theorem nS {α : Type}[Key α]{a b:ai α}(h:a.rank=b.rank)(ha:a.sk)(hb:b.sk):(fu a b).sk:=by
 have h1:=ha.1;have h2:=hb.1;simp only [ai.rank]at h h1 h2;unfold fu;split
 ·exact ⟨by simp only [ai.rank,ay.len];omega,h1,h,ha.2,hb.2⟩
 ·exact ⟨by simp only [ai.rank,ay.len];omega,h2,h.symm,hb.2,ha.2⟩
theorem yc {α : Type}[Key α](y : α)(t:ai α):(pE y t).rank=t.rank:=by unfold pE;split<;>rfl
theorem xk {α : Type}[Key α]{x : α}{a b:ai α}(h:a.rank=b.rank):(tq x a b).rank=a.rank+1:=by unfold tq;rw [yc,fA h]
theorem Bl {α : Type}[Key α]{x : α}{a b:ai α}(h:a.rank=b.rank)(ha:a.sk)(hb:b.sk):(tq x a b).sk:=by
 have h0:=nS h ha hb
 have h1:(fu a b).bs.length≤a.rank:=by
  have h1:=ha.1;have h2:=hb.1;unfold fu;split<;>simp only<;>omega
 have h2:=fA h;unfold tq pE;simp only [ai.rank]at h1 h2;split
 ·exact ⟨by simp only [ai.rank,List.length_cons];omega,h0.2⟩
 ·exact ⟨by simp only [ai.rank,List.length_cons];omega,h0.2⟩
theorem y8 {α : Type}[Key α]{y : α}{t:ai α}(h:t.hok):(pE y t).hok:=by
 unfold pE;split
 next hv =>
  refine ⟨fun e he=>?_,h.2⟩;simp only [List.cons_append,List.mem_cons]at he;rcases he with rfl|he
  ·show rW e t.x=false;exact xN hv
  ·exact h.1 e he
 next hv =>
  have hv':rW t.x y=false:=by simpa using hv
  refine ⟨fun e he=>?_,h.2⟩;simp only [List.cons_append,List.mem_cons]at he;rcases he with rfl|he
  ·exact hv'
  ·exact nM _ _ _ (h.1 e he) hv'
theorem yT {α : Type}[Key α]{x : α}{a b:ai α}(ha:a.hok)(hb:b.hok):(tq x a b).hok:=y8 (jm ha hb)
theorem yS {α : Type}(x : α):(bY x).sk:=⟨Nat.zero_le _,trivial⟩
theorem ay.qz {α : Type}:∀{w:ay α},w.sk→2 ^ w.len≤w.size+1∧w.size+w.len+2≤2 ^ (w.len+1)
 | .nil,_=>⟨Nat.le_refl _,by simp [ay.size,ay.len]⟩
 | .cons x bs ks r,⟨h1,h2,h3,h4⟩=>by
  have i1:=ay.qz h3;have i2:=ay.qz h4;rw [h2]at i1 h1;simp only [ay.size,ay.len,Nat.pow_succ]at *;omega
theorem ai.sk.sizes {α : Type}{t:ai α}(h:t.sk):2 ^ t.rank≤t.size∧t.size<2 ^ (t.rank+1):=by
 have h1:=ay.qz h.2;have h2:=h.1;simp only [ai.size,ai.rank,Nat.pow_succ]at *;omega
theorem kE {α : Type}[Key α]:∀(l:List (ai α)) (t:ai α),t.hok→t.sk→(∀u∈l,t.rank≤u.rank)→(∀u∈l,u.hok)→(∀u∈l,u.sk)→l.Pairwise (fun a b=>a.rank<b.rank) →
  (∀u∈dx l t,u.hok)∧(∀u∈dx l t,u.sk)∧(dx l t).Pairwise (fun a b=>a.rank<b.rank) ∧ ∀u∈dx l t,t.rank≤u.rank
 | [],t,h1,h2,_,_,_,_=>by simp [dx,h1,h2]
 | u::r,t,h1,h2,h3,h4,h5,h6=>by
  unfold dx;obtain ⟨h7,h8⟩:=List.pairwise_cons.1 h6;have hu:=h3 u (by simp);split
  next hr =>
   refine ⟨fun v hv=>?_,fun v hv=>?_,List.pairwise_cons.2 ⟨fun v hv=>?_,h6⟩,fun v hv=>?_⟩
   ·rcases List.mem_cons.1 hv with rfl|hv;exact h1;exact h4 v hv
   ·rcases List.mem_cons.1 hv with rfl|hv;exact h2;exact h5 v hv
   ·rcases List.mem_cons.1 hv with rfl|hv;exact hr;exact Nat.lt_trans hr (h7 v hv)
   ·rcases List.mem_cons.1 hv with rfl|hv;exact Nat.le_refl _;exact h3 v hv
  next hr =>
   have he:t.rank=u.rank:=by omega
   have hk:=fA he;obtain ⟨g1,g2,g3,g4⟩:=kE r (fu t u) (jm h1 (h4 u (by simp))) (nS he h2 (h5 u (by simp))) (fun v hv=>by have:=h7 v hv;omega) (fun v hv=>h4 v (by simp [hv])) (fun v hv=>h5 v (by simp [hv])) h8;exact ⟨g1,g2,g3,fun v hv=>by have:=g4 v hv;omega⟩
theorem eu {α : Type}[Key α]:∀a b:List (ai α),(∀t∈a,t.hok)→(∀t∈b,t.hok)→(∀t∈a,t.sk)→(∀t∈b,t.sk)→a.Pairwise (fun a b=>a.rank<b.rank)→b.Pairwise (fun a b=>a.rank<b.rank) →
  (∀u∈aP a b,u.hok)∧(∀u∈aP a b,u.sk)∧(aP a b).Pairwise (fun a b=>a.rank<b.rank) ∧ ∀k,(∀u∈a,k≤u.rank)→(∀u∈b,k≤u.rank) → ∀u∈aP a b,k≤u.rank:=by
 refine gW (P:=fun (a b:List (ai α))=>(∀t∈a,t.hok)→(∀t∈b,t.hok)→(∀t∈a,t.sk)→(∀t∈b,t.sk)→a.Pairwise (fun a b=>a.rank<b.rank)→b.Pairwise (fun a b=>a.rank<b.rank) →
  (∀u∈aP a b,u.hok)∧(∀u∈aP a b,u.sk)∧(aP a b).Pairwise (fun a b=>a.rank<b.rank) ∧ ∀k,(∀u∈a,k≤u.rank)→(∀u∈b,k≤u.rank) → ∀u∈aP a b,k≤u.rank) ?_ ?_ ?_ ?_ ?_
 ·intro b _ h2 _ h4 _ h6;rw [eU];exact ⟨h2,h4,h6,fun k _ hk=>hk⟩
 ·intro f a h1 _ h3 _ h5 _;rw [dM];exact ⟨h1,h3,h5,fun k hk _=>hk⟩
 ·intro f a g b h ih h1 h2 h3 h4 h5 h6;rw [iE h];obtain ⟨p1,p2⟩:=List.pairwise_cons.1 h5;obtain ⟨q1,q2⟩:=List.pairwise_cons.1 h6;obtain ⟨g1,g2,g3,g4⟩:=ih (fun t ht=>h1 t (by simp [ht])) h2 (fun t ht=>h3 t (by simp [ht])) h4 p2 h6;refine ⟨fun v hv=>?_,fun v hv=>?_,List.pairwise_cons.2 ⟨fun v hv=>?_,g3⟩,fun k hk1 hk2 v hv=>?_⟩
  ·rcases List.mem_cons.1 hv with rfl|hv;exact h1 _ (by simp);exact g1 v hv
  ·rcases List.mem_cons.1 hv with rfl|hv;exact h3 _ (by simp);exact g2 v hv
  ·refine g4 (f.rank+1) (fun u hu=>p1 u hu) (fun u hu=>?_) v hv;rcases List.mem_cons.1 hu with rfl|hu
   ·exact h
   ·have:=q1 u hu;omega
  ·rcases List.mem_cons.1 hv with rfl|hv;exact hk1 _ (by simp);exact g4 k (fun u hu=>hk1 u (by simp [hu])) hk2 v hv
 ·intro f a g b h ih h1 h2 h3 h4 h5 h6;rw [iK h];obtain ⟨p1,p2⟩:=List.pairwise_cons.1 h5;obtain ⟨q1,q2⟩:=List.pairwise_cons.1 h6;obtain ⟨g1,g2,g3,g4⟩:=ih h1 (fun t ht=>h2 t (by simp [ht])) h3 (fun t ht=>h4 t (by simp [ht])) h5 q2;refine ⟨fun v hv=>?_,fun v hv=>?_,List.pairwise_cons.2 ⟨fun v hv=>?_,g3⟩,fun k hk1 hk2 v hv=>?_⟩
  ·rcases List.mem_cons.1 hv with rfl|hv;exact h2 _ (by simp);exact g1 v hv
  ·rcases List.mem_cons.1 hv with rfl|hv;exact h4 _ (by simp);exact g2 v hv
  ·refine g4 (g.rank+1) (fun u hu=>?_) (fun u hu=>q1 u hu) v hv;rcases List.mem_cons.1 hu with rfl|hu
   ·exact h
   ·have:=p1 u hu;omega
  ·rcases List.mem_cons.1 hv with rfl|hv;exact hk2 _ (by simp);exact g4 k hk1 (fun u hu=>hk2 u (by simp [hu])) v hv
 ·intro f a g b h ih h1 h2 h3 h4 h5 h6;rw [iD h];obtain ⟨p1,p2⟩:=List.pairwise_cons.1 h5;obtain ⟨q1,q2⟩:=List.pairwise_cons.1 h6;obtain ⟨g1,g2,g3,g4⟩:=ih (fun t ht=>h1 t (by simp [ht])) (fun t ht=>h2 t (by simp [ht])) (fun t ht=>h3 t (by simp [ht])) (fun t ht=>h4 t (by simp [ht])) p2 q2;have hk:=fA h;have g5:=g4 (f.rank+1) (fun u hu=>p1 u hu) (fun u hu=>by have:=q1 u hu;omega);obtain ⟨k1,k2,k3,k4⟩:=kE (aP a b) (fu f g) (jm (h1 f (by simp)) (h2 g (by simp))) (nS h (h3 f (by simp)) (h4 g (by simp))) (fun u hu=>by have:=g5 u hu;omega) g1 g2 g3;refine ⟨k1,k2,k3,fun k hk1 hk2 v hv=>?_⟩;have:=k4 v hv;have:=hk1 f (by simp);omega
theorem ay.mH {α : Type}:∀{w:ay α},w.sk → ∀t∈w.list,t.sk∧t.rank<w.len
 | .nil,_,_,ht=>by simp [ay.list]at ht
 | .cons x bs ks r,h,t,ht=>by
  rcases List.mem_cons.1 ht with rfl|ht
  ·exact ⟨⟨h.1,h.2.2.1⟩,by simp only [ai.rank,ay.len];have:=h.2.1;omega⟩
  ·have:=ay.mH h.2.2.2 t ht;exact ⟨this.1,by simp only [ay.len];omega⟩
theorem ay.je {α : Type}:∀{w:ay α},w.sk→w.list.reverse.Pairwise (fun a b=>a.rank<b.rank)
 | .nil,_=>by simp [ay.list]
 | .cons x bs ks r,h=>by
  simp only [ay.list,List.reverse_cons,List.pairwise_append];refine ⟨ay.je h.2.2.2,by simp,fun a ha b hb=>?_⟩;simp only [List.mem_singleton]at hb;subst hb;have:=(ay.mH h.2.2.2 a (by simpa using ha)).2;simp only [ai.rank]at *;have:=h.2.1;omega
def upto {α : Type}:List (ai α)→Prop
 | []=>True
 | t::r=>(∀u∈r,t.rank≤u.rank)∧r.Pairwise (fun a b=>a.rank<b.rank)
theorem iy {α : Type}{l:List (ai α)}(h:l.Pairwise (fun a b=>a.rank<b.rank)):upto l:=by
 cases l with
 | nil=>trivial
 | cons t r=>obtain ⟨h1,h2⟩:=List.pairwise_cons.1 h;exact ⟨fun u hu=>Nat.le_of_lt (h1 u hu),h2⟩
structure fZ {α : Type}[Key α](h:List (ai α)):Prop where
 hok:∀t∈h,t.hok
 sk:∀t∈h,t.sk
 up:upto h
theorem jS {α : Type}[Key α]{h:List (ai α)}(k:fZ h):(∀u∈dF h,u.hok)∧(∀u∈dF h,u.sk)∧(dF h).Pairwise (fun a b=>a.rank<b.rank):=by
 cases h with
 | nil=>exact ⟨by simp [dF],by simp [dF],List.Pairwise.nil⟩
 | cons t r =>
  obtain ⟨g1,g2,g3, -⟩:=kE r t (k.hok t (by simp)) (k.sk t (by simp)) k.up.1 (fun u hu=>k.hok u (by simp [hu])) (fun u hu=>k.sk u (by simp [hu])) k.up.2;exact ⟨g1,g2,g3⟩
theorem mF {α : Type}[Key α]:fZ ([]:List (ai α)):=⟨by simp,by simp,trivial⟩
theorem yg {α : Type}[Key α]{a b:List (ai α)}(ha:fZ a)(hb:fZ b):fZ (nu a b):=by
 obtain ⟨a1,a2,a3⟩:=jS ha;obtain ⟨b1,b2,b3⟩:=jS hb;obtain ⟨h1,h2,h3, -⟩:=eu (dF a) (dF b) a1 b1 a2 b2 a3 b3;exact ⟨h1,h2,iy h3⟩
theorem jo {α : Type}[Key α]{h:List (ai α)}(x : α)(k:fZ h):fZ (dQ h x):=by
 have leaf:∀l:List (ai α),(∀u∈l,u.hok)→(∀u∈l,u.sk)→l.Pairwise (fun a b=>a.rank<b.rank)→fZ (bY x::l):=fun l h1 h2 h3 =>
  ⟨fun u hu=>by rcases List.mem_cons.1 hu with rfl|hu;exact oN x;exact h1 u hu,fun u hu=>by rcases List.mem_cons.1 hu with rfl|hu;exact yS x;exact h2 u hu,fun u _=>Nat.zero_le _,h3⟩
 match h,k with
 | [],k=>exact leaf [] k.hok k.sk List.Pairwise.nil
 | [f],k=>exact leaf [f] k.hok k.sk (by simp)
 | f::g::r,k =>
  obtain ⟨u1,u2⟩:=k.up;obtain ⟨u3,u4⟩:=List.pairwise_cons.1 u2;by_cases e:f.rank=g.rank
  ·rw [mK x e];have hr:=xk (x:=x) e;refine ⟨fun u hu=>?_,fun u hu=>?_,fun u hu=>?_,u4⟩
   ·rcases List.mem_cons.1 hu with rfl|hu
    ·exact yT (k.hok f (by simp)) (k.hok g (by simp))
    ·exact k.hok u (by simp [hu])
   ·rcases List.mem_cons.1 hu with rfl|hu
    ·exact Bl e (k.sk f (by simp)) (k.sk g (by simp))
    ·exact k.sk u (by simp [hu])
   ·have:=u3 u hu;omega
  ·rw [mM x e];refine leaf _ k.hok k.sk (List.pairwise_cons.2 ⟨fun u hu=>?_,u2⟩);have h1:=u1 g (by simp);rcases List.mem_cons.1 hu with rfl|hu
   ·omega
   ·have:=u3 u hu;omega
theorem pu {α : Type}[Key α]:∀(l:List α) (h:List (ai α)),fZ h→fZ (l.foldl dQ h)
 | [],_,hh=>hh
 | x::r,_,hh=>pu r _ (jo x hh)
theorem oU {α : Type}{l:List (ai α)}{i:Nat}(h:upto l):upto (aK l i):=by
 cases l with
 | nil=>simp [aK,upto]
 | cons t r =>
  cases i with
  | zero=>simp only [aK,List.take_zero,List.nil_append,Nat.zero_add,List.drop_succ_cons,List.drop_zero];exact iy h.2
  | succ i =>
   have e:aK (t::r) (i+1)=t::aK r i:=by simp [aK]
   rw [e];exact ⟨fun u hu=>h.1 u (dY hu),lY h.2⟩
theorem wI {α : Type}[Key α]{h:List (ai α)}(hh:fZ h){i:Nat}(hi:i<h.length):fZ (cu h i):=by
 have hm:=List.getElem_mem hi;have hk:aO h i=h[i].ks.list.reverse:=by unfold aO;rw [List.getElem?_eq_getElem hi]
 unfold cu;rw [hk];generalize h[i]=u at *;have hu:=hh.hok u hm;have hb:=hh.sk u hm;obtain ⟨b1,b2,b3⟩:=jS (h:=aK h i) ⟨fun v hv=>hh.hok v (dY hv),fun v hv=>hh.sk v (dY hv),oU hh.up⟩;obtain ⟨h1,h2,h3, -⟩:=eu u.ks.list.reverse (dF (aK h i)) (fun v hv=>ay.lK hu.2 v (by simpa using hv)) b1 (fun v hv=>(ay.mH hb.2 v (by simpa using hv)).1) b2 (ay.je hb.2) b3;exact ⟨h1,h2,iy h3⟩
theorem wD {α : Type}[Key α][Inhabited α]{h:List (ai α)}(hh:fZ h):fZ (nK h):=by
 match h,hh with
 | [],_=>exact mF
 | t::r,hh=>exact pu _ _ (wI hh (dz (l:=t::r) (by simp)))
theorem ve {α : Type}[Key α]{h:List (ai α)}{i:Nat}(hi:i<h.length):(aR h).Perm (h[i].x::(dB h i++aR (cu h i))):=by
 have hp:=eH hi;have hk:aO h i=h[i].ks.list.reverse:=by unfold aO;rw [List.getElem?_eq_getElem hi]
 have hb:dB h i=h[i].bs:=by unfold dB;rw [List.getElem?_eq_getElem hi]
 unfold cu;rw [hk,hb];generalize h[i]=u at *;refine hp.trans ?_;simp only [ai.all,List.cons_append,List.append_assoc];refine List.Perm.cons _ (List.Perm.append_left _ ?_);refine List.Perm.trans ?_ (ji _ _).symm;refine List.Perm.append ?_ (kR _).symm;exact ((jc _).trans (by rw [ay.nE])).symm
theorem jU {α : Type}[Key α][Inhabited α]{h:List (ai α)}(hne:h≠[]):(aR h).Perm ((qY h).1::aR (nK h)):=by
 match h,hne with
 | t::r,_ =>
  have hl:=dz (l:=t::r) (by simp);have hroot:bq (t::r) (ak (t::r))=((t::r)[ak (t::r)]).x:=by unfold bq;rw [List.getElem?_eq_getElem hl]
  show (aR (t::r)).Perm (bq (t::r) (ak (t::r))::aR ((dB (t::r) (ak (t::r))).foldl dQ (cu (t::r) (ak (t::r)))));rw [hroot];refine (ve hl).trans (List.Perm.cons _ ?_);exact List.perm_append_comm.trans (mR _ _).symm
theorem Dc {α : Type}[Key α][Inhabited α]{h:List (ai α)}(hne:h≠[]):ah (nK h)+1=ah h:=by
 have:=(jU hne).length_eq;rw [aG,List.length_cons,aG]at this;exact this.symm
theorem ql {α : Type}[Key α][Inhabited α]{h:List (ai α)}(hh:∀t∈h,t.hok)(hne:h≠[]):∀e∈aR h,rW e (qY h).1=false:=by
 match h,hne with
 | t::r,_ =>
  intro e he;obtain ⟨v,hv,hev⟩:=uH he;obtain ⟨j,hj,rfl⟩:=List.getElem_of_mem hv;have h1:=(hh _ hv).le hev;have h2:=iB (t::r) ((t::r).length - 1) j (by omega);have h3:bq (t::r) j=((t::r)[j]).x:=by unfold bq;rw [List.getElem?_eq_getElem hj]
  rw [h3]at h2;exact nM _ _ _ h1 h2
end Go.Proofs.YtmeodbjlmjpnbaaGreat.U.Gn
namespace Go.Proofs.YtmeodbjlmjpnbaaGreat.U.Gn
open Go.Sort Go.RowKit
def ay.map {α β : Type}(f : α→β):ay α→ay β
 | .nil=>.nil
 | .cons x bs ks r=>.cons (f x) (bs.map f) (ks.map f) (r.map f)
def ai.map {α β : Type}(f : α→β)(t:ai α):ai β:=⟨f t.x,t.bs.map f,t.ks.map f⟩
theorem ay.Cv {α β : Type}(f : α→β):∀w:ay α,(w.map f).len=w.len
 | .nil=>rfl
 | .cons _ _ _ r=>by simp only [ay.map,ay.len,r.Cv f]
theorem ay.tO {α β : Type}(f : α→β):∀w:ay α,(w.map f).all=w.all.map f
 | .nil=>rfl
 | .cons x bs ks r=>by simp only [ay.map,ay.all,ks.tO f,r.tO f,List.map_append,List.map_cons]
theorem ai.tO {α β : Type}(f : α→β)(t:ai α):(t.map f).all=t.all.map f:=by simp only [ai.map,ai.all,ay.tO,List.map_append,List.map_cons]
theorem ai.jg {α β : Type}(f : α→β)(t:ai α):(t.map f).rank=t.rank:=ay.Cv f t.ks
theorem ay.Au {α β : Type}(f : α→β):∀w:ay α,(w.map f).list=w.list.map (ai.map f)
 | .nil=>rfl
 | .cons x bs ks r=>by simp only [ay.map,ay.list,r.Au f,List.map_cons,ai.map]
theorem xB {α β : Type}(f : α→β):∀l:List (ai α),aR (l.map (ai.map f))=(aR l).map f
 | []=>rfl
 | t::r=>by simp only [List.map_cons,aR,xB f r,ai.tO,List.map_append]
theorem Dw {α β : Type}(f : α→β)(l:List (ai α)):ah (l.map (ai.map f))=ah l:=by rw [←aG,xB,List.length_map,aG]
theorem ul {α β : Type}[Key α][Key β](f : α→β)(hf:∀a : α,Key.key (f a)=Key.key a)(a b : α):rW (f a) (f b)=rW a b:=by unfold rW;rw [hf,hf]
theorem zn {α β : Type}[Key α][Key β](f : α→β)(hf:∀a : α,Key.key (f a)=Key.key a)(a b:ai α):fu (a.map f) (b.map f)=(fu a b).map f:=by
 cases h:rW b.x a.x with
 | true=>rw [y9 h,y9 (by show rW (f b.x) (f a.x)=true;rw [ul f hf];exact h)];rfl
 | false=>rw [zi h,zi (by show rW (f b.x) (f a.x)=false;rw [ul f hf];exact h)];rfl
theorem FZ {α β : Type}[Key α][Key β](f : α→β)(hf:∀a : α,Key.key (f a)=Key.key a)(y : α)(t:ai α):pE (f y) (t.map f)=(pE y t).map f:=by
 cases h:rW t.x y with
 | true=>rw [zK h,zK (by show rW (f t.x) (f y)=true;rw [ul f hf];exact h)];rfl
 | false=>rw [yR h,yR (by show rW (f t.x) (f y)=false;rw [ul f hf];exact h)];rfl
theorem tN {α β : Type}[Key α][Key β](f : α→β)(hf:∀a : α,Key.key (f a)=Key.key a):∀(l:List (ai α)) (t:ai α),dx (l.map (ai.map f)) (t.map f)=(dx l t).map (ai.map f)∧bg (l.map (ai.map f)) (t.map f)=bg l t
 | [],_=>⟨rfl,rfl⟩
 | u::r,t=>by
  have h:=tN f hf r (fu t u);rw [←zn f hf]at h;simp only [List.map_cons,dx,bg,ai.jg];split
  ·exact ⟨rfl,rfl⟩
  ·exact ⟨h.1,by rw [h.2]⟩
theorem yI {α β : Type}[Key α][Key β](f : α→β)(hf:∀a : α,Key.key (f a)=Key.key a):∀a b:List (ai α),aP (a.map (ai.map f)) (b.map (ai.map f))=(aP a b).map (ai.map f)∧aI (a.map (ai.map f)) (b.map (ai.map f))=aI a b:=by
 refine gW ?_ ?_ ?_ ?_ ?_
 ·intro b;rw [List.map_nil,eU,eU,iH,iH];exact ⟨rfl,rfl⟩
 ·intro g a;rw [List.map_nil,dM,dM,gq,gq];exact ⟨rfl,rfl⟩
 ·intro g a k b h ih;have h':(g.map f).rank<(k.map f).rank:=by rw [ai.jg,ai.jg];exact h
  rw [iE h,jR h,List.map_cons,List.map_cons,iE h',jR h'];rw [List.map_cons]at ih;rw [ih.1,ih.2];exact ⟨rfl,rfl⟩
 ·intro g a k b h ih;have h':(k.map f).rank<(g.map f).rank:=by rw [ai.jg,ai.jg];exact h
  rw [iK h,kP h,List.map_cons,List.map_cons,iK h',kP h'];rw [List.map_cons]at ih;rw [ih.1,ih.2];exact ⟨rfl,rfl⟩
 ·intro g a k b h ih;have h':(g.map f).rank=(k.map f).rank:=by rw [ai.jg,ai.jg];exact h
  rw [iD h,jO h,List.map_cons,List.map_cons,iD h',jO h',ih.1,ih.2,zn f hf,(tN f hf _ _).1,(tN f hf _ _).2];exact ⟨rfl,rfl⟩
theorem wV {α β : Type}[Key α][Key β](f : α→β)(hf:∀a : α,Key.key (f a)=Key.key a)(l:List (ai α)):dF (l.map (ai.map f))=(dF l).map (ai.map f)∧gT (l.map (ai.map f))=gT l:=by
 cases l with
 | nil=>exact ⟨rfl,rfl⟩
 | cons t r=>exact tN f hf r t
theorem Cw {α β : Type}[Key α][Key β](f : α→β)(hf:∀a : α,Key.key (f a)=Key.key a)(a b:List (ai α)):nu (a.map (ai.map f)) (b.map (ai.map f))=(nu a b).map (ai.map f)∧fO (a.map (ai.map f)) (b.map (ai.map f))=fO a b:=by
 have h1:=wV f hf a;have h2:=wV f hf b;have h3:=yI f hf (dF a) (dF b);unfold nu fO;rw [h1.1,h1.2,h2.1,h2.2,h3.1,h3.2];exact ⟨rfl,rfl⟩
theorem Ak {α β : Type}[Key α][Key β](f : α→β)(hf:∀a : α,Key.key (f a)=Key.key a)(h:List (ai α))(x : α):dQ (h.map (ai.map f)) (f x)=(dQ h x).map (ai.map f):=by
 match h with
 | []=>rfl
 | [g]=>rfl
 | g::k::r =>
  by_cases e:g.rank=k.rank
  ·rw [mK x e,List.map_cons,List.map_cons,mK (f x) (by rw [ai.jg,ai.jg];exact e)];unfold tq;rw [zn f hf,FZ f hf];rfl
  ·rw [mM x e,List.map_cons,List.map_cons,mM (f x) (by rw [ai.jg,ai.jg];exact e)];rfl
theorem yF {α β : Type}(f : α→β)(h:List (ai α)):eX (h.map (ai.map f))=eX h∧eG (h.map (ai.map f))=eG h:=by
 match h with
 | []=>exact ⟨rfl,rfl⟩
 | [g]=>exact ⟨rfl,rfl⟩
 | g::k::r=>simp only [List.map_cons,eX,eG,ai.jg];exact ⟨trivial,trivial⟩
theorem yL {α β : Type}[Key α][Key β](f : α→β)(hf:∀a : α,Key.key (f a)=Key.key a):∀(l:List α) (h:List (ai α)),(l.map f).foldl dQ (h.map (ai.map f))=(l.foldl dQ h).map (ai.map f)∧mX (h.map (ai.map f)) (l.map f)=mX h l∧nA (h.map (ai.map f)) (l.map f)=nA h l
 | [],_=>⟨rfl,rfl,rfl⟩
 | x::r,h=>by
  have h1:=yL f hf r (dQ h x);rw [←Ak f hf]at h1;have h2:=yF f h;simp only [List.map_cons,List.foldl_cons,mX,nA];rw [h1.1,h1.2.1,h1.2.2,h2.1,h2.2];exact ⟨rfl,rfl,rfl⟩
theorem sw {α β : Type}[Inhabited α][Inhabited β](f : α→β){l:List (ai α)}{i:Nat}(h:i<l.length):bq (l.map (ai.map f)) i=f (bq l i):=by
 unfold bq;rw [List.getElem?_map,List.getElem?_eq_getElem h];rfl
theorem wY {α β : Type}[Key α][Key β][Inhabited α][Inhabited β](f : α→β)(hf:∀a : α,Key.key (f a)=Key.key a)(l:List (ai α)):∀k,k<l.length→cK (l.map (ai.map f)) k=cK l k
 | 0,_=>rfl
 | k+1,h=>by
  have h1:=wY f hf l k (by omega);have h2:=mO l k;unfold cK;rw [h1,sw f h,sw f (by omega),ul f hf]
theorem xg {α β : Type}[Key α][Key β][Inhabited α][Inhabited β](f : α→β)(hf:∀a : α,Key.key (f a)=Key.key a){l:List (ai α)}(h:l≠[]):ak (l.map (ai.map f))=ak l:=by
 unfold ak;rw [List.length_map];exact wY f hf l _ (by have:=List.length_pos_iff.2 h;omega)
theorem EZ {α β : Type}(f : α→β)(l:List (ai α))(i:Nat):aO (l.map (ai.map f)) i=(aO l i).map (ai.map f)∧dB (l.map (ai.map f)) i=(dB l i).map f∧aK (l.map (ai.map f)) i=(aK l i).map (ai.map f):=by
 unfold aO dB aK;rw [List.getElem?_map];refine ⟨?_,?_,?_⟩
 ·cases l[i]? with
  | none=>rfl
  | some t=>show (t.ks.map f).list.reverse=_;rw [ay.Au,List.map_reverse]
 ·cases l[i]? with
  | none=>rfl
  | some t=>rfl
 ·rw [List.map_append,List.map_take,List.map_drop]
theorem CR {α β : Type}[Key α][Key β](f : α→β)(hf:∀a : α,Key.key (f a)=Key.key a)(l:List (ai α))(i:Nat):cu (l.map (ai.map f)) i=(cu l i).map (ai.map f)∧dR (l.map (ai.map f)) i=dR l i:=by
 obtain ⟨h1, -,h2⟩:=EZ f l i;have h3:=wV f hf (aK l i);have h4:=yI f hf (aO l i) (dF (aK l i));unfold cu dR;rw [h1,h2,h3.1,h3.2,h4.1,h4.2];exact ⟨rfl,rfl⟩
theorem EU {α β : Type}[Key α][Key β][Inhabited α][Inhabited β](f : α→β)(hf:∀a : α,Key.key (f a)=Key.key a){l:List (ai α)}(h:l≠[]):(qY (l.map (ai.map f))).1=f (qY l).1:=by
 match l,h with
 | t::r,_ =>
  show bq ((t::r).map (ai.map f)) (ak ((t::r).map (ai.map f)))=f (bq (t::r) (ak (t::r)));rw [xg f hf (by simp),sw f (dz (by simp))]
theorem Ew {α β : Type}[Key α][Key β][Inhabited α][Inhabited β](f : α→β)(hf:∀a : α,Key.key (f a)=Key.key a)(l:List (ai α)):nK (l.map (ai.map f))=(nK l).map (ai.map f)∧qG (l.map (ai.map f))=qG l∧qH (l.map (ai.map f))=qH l:=by
 match l with
 | []=>exact ⟨rfl,rfl,rfl⟩
 | t::r =>
  have hi:=xg f hf (l:=t::r) (by simp);have hb:=CR f hf (t::r) (ak (t::r));have hs:=(EZ f (t::r) (ak (t::r))).2.1;have hp:=yL f hf (dB (t::r) (ak (t::r))) (cu (t::r) (ak (t::r)));rw [←hb.1,←hs,←hi]at hp;refine ⟨?_,?_,?_⟩
  ·show (dB ((t::r).map (ai.map f)) (ak ((t::r).map (ai.map f)))).foldl dQ (cu ((t::r).map (ai.map f)) (ak ((t::r).map (ai.map f))))=_;rw [hp.1,hi];rfl
  ·show dR ((t::r).map (ai.map f)) (ak ((t::r).map (ai.map f)))+mX (cu ((t::r).map (ai.map f)) (ak ((t::r).map (ai.map f)))) (dB ((t::r).map (ai.map f)) (ak ((t::r).map (ai.map f))))=_;rw [hp.2.1,hi,hb.2];rfl
  ·show dR ((t::r).map (ai.map f)) (ak ((t::r).map (ai.map f)))+nA (cu ((t::r).map (ai.map f)) (ak ((t::r).map (ai.map f)))) (dB ((t::r).map (ai.map f)) (ak ((t::r).map (ai.map f))))=_;rw [hp.2.2,hi,hb.2];rfl
end Go.Proofs.YtmeodbjlmjpnbaaGreat.U.Gn
namespace Go.Proofs.YtmeodbjlmjpnbaaGreat.U.Bo
open Go.Sort Go.RowKit Go.Proofs.YtmeodbjlmjpnbaaGreat.U.Gn
inductive Lh
 | nil
 | node (x:Int×Int) (q:List (Gn.ai Lh))
def Lh.key:Lh→Int×Int
 | .nil=>(0,0)
 | .node x _=>x
instance:Gn.Key Lh:=⟨Lh.key⟩
instance:Inhabited Lh:=⟨.nil⟩
theorem sW:∀(w:Gn.ay Lh) (b:Lh),b∈w.all→SizeOf.sizeOf b<SizeOf.sizeOf w
 | .nil,b,h=>by simp [Gn.ay.all]at h
 | .cons x bs ks r,b,h=>by
  simp only [Gn.ay.all]at h;simp only [Gn.ay.cons.sizeOf_spec];rcases List.mem_append.1 h with h|h
  ·rcases List.mem_cons.1 h with rfl|h
   ·omega
   ·rcases List.mem_append.1 h with h|h
    ·have:=List.sizeOf_lt_of_mem h;omega
    ·have:=sW ks b h;omega
  ·have:=sW r b h;omega
theorem jF:∀(q:List (Gn.ai Lh)) (b:Lh),b∈Gn.aR q→SizeOf.sizeOf b<SizeOf.sizeOf q
 | [],b,h=>by simp [Gn.aR]at h
 | t::r,b,h=>by
  simp only [Gn.aR]at h;rw [List.cons.sizeOf_spec];rcases List.mem_append.1 h with h|h
  ·obtain ⟨x,bs,ks⟩:=t;rw [Gn.ai.mk.sizeOf_spec];simp only [Gn.ai.all]at h;rcases List.mem_cons.1 h with rfl|h
   ·omega
   ·rcases List.mem_append.1 h with h|h
    ·have:=List.sizeOf_lt_of_mem h;omega
    ·have:=sW ks b h;omega
  ·have:=jF r b h;omega
def Lh.els:Lh→List (Int×Int)
 | .nil=>[]
 | .node x q=>x::((Gn.aR q).attach.map fun b=>b.1.els).flatten
termination_by h=>SizeOf.sizeOf h
decreasing_by
 have:=jF q b.1 b.2;rw [Lh.node.sizeOf_spec];omega
def Lh.txt:Lh→List UInt8
 | .nil=>[46]
 | .node x q=>91::(textOf x.1 x.2++((Gn.aR q).attach.map fun b=>32::b.1.txt).flatten++[93])
termination_by h=>SizeOf.sizeOf h
decreasing_by
 have:=jF q b.1 b.2;rw [Lh.node.sizeOf_spec];omega
def Lh.all:Lh→List (Int×Int)
 | .nil=>[]
 | .node x q=>x::(Gn.aR q).flatMap Lh.els
def Lh.show:Lh→List UInt8
 | .nil=>[46]
 | .node x q=>91::(textOf x.1 x.2++((Gn.aR q).flatMap fun b=>32::b.txt)++[93])
def Lh.size:Lh→Nat
 | .nil=>0
 | .node _ q=>((Gn.aR q).flatMap Lh.els).length+1
theorem FU (h:Lh):h.els=h.all:=by
 cases h with
 | nil=>rw [Lh.els];rfl
 | node x q=>rw [Lh.els,List.attach_map_val,←List.flatMap_def];rfl
theorem Fe:Lh.els=Lh.all:=funext FU
theorem all_nil:Lh.all .nil=[]:=rfl
theorem fF (x:Int×Int)(q:List (Gn.ai Lh)):(Lh.node x q).all=x::(Gn.aR q).flatMap Lh.all:=by show x::(Gn.aR q).flatMap Lh.els=_;rw [Fe]
theorem l9 (h:Lh):h.size=h.all.length:=by cases h<;>rfl
def Lh.min:Lh→(Int×Int)×Bool
 | .nil=>((0,0),false)
 | .node x _=>(x,true)
def Lh.some (h:Lh):Bool:=h.min.2
def Lh.one (x:Int×Int):Lh := .node x []
def bI:Lh→Lh→Lh
 | .nil,b=>b
 | .node x o,.nil=>.node x o
 | .node x o,.node y p=>if dH y x=true then .node y (Gn.dQ p (.node x o)) else .node x (Gn.dQ o (.node y p))
def rC:Lh→Lh→Nat
 | .nil,_=>0
 | .node _ _,.nil=>0
 | .node x o,.node y p=>if dH y x=true then Gn.eX p+1 else Gn.eX o+1
def qP:Lh→Lh→Nat
 | .nil,_=>0
 | .node _ _,.nil=>0
 | .node x o,.node y p=>if dH y x=true then Gn.eG p+1 else Gn.eG o+1
def Lh.insert (h:Lh)(x:Int×Int):Lh:=bI (.one x) h
def Lh.iJ (h:Lh)(x:Int×Int):Nat:=rC (.one x) h
def Lh.iF (h:Lh)(x:Int×Int):Nat:=qP (.one x) h+1
def least (q:List (Gn.ai Lh)):Lh:=(Gn.qY q).1
def Lh.queue:Lh→List (Gn.ai Lh)
 | .nil=>[]
 | .node _ q=>q
def Lh.pop:Lh→Lh
 | .nil=>.nil
 | .node _ []=>.nil
 | .node _ (t::r)=>.node (least (t::r)).key (Gn.nu (least (t::r)).queue (Gn.nK (t::r)))
def Lh.jf:Lh→Nat
 | .nil=>0
 | .node _ []=>0
 | .node _ (t::r)=>r.length+(Gn.qG (t::r)+r.length)+Gn.fO (least (t::r)).queue (Gn.nK (t::r))
def Lh.jl:Lh→Nat
 | .nil=>0
 | .node _ []=>0
 | .node _ (t::r)=>Gn.qH (t::r)+Gn.fO (least (t::r)).queue (Gn.nK (t::r))+1
def fG (l:List (Int×Int)):Lh:=l.foldl Lh.insert .nil
def dG:Lh→List (Int×Int)→Nat
 | _,[]=>0
 | h,x::r=>h.iJ x+dG (h.insert x) r
def dD:Lh→List (Int×Int)→Nat
 | _,[]=>0
 | h,x::r=>h.iF x+dD (h.insert x) r
theorem pF {x y:Int×Int}(h:dH x y=true):dH y x=false:=by
 rw [ku]at h;rw [iA];omega
theorem jA (b:Lh):bI .nil b=b:=rfl
theorem fT (a:Lh):bI a .nil=a:=by cases a<;>rfl
theorem fw {x y:Int×Int}{o p:List (Gn.ai Lh)}(h:dH y x=true):bI (.node x o) (.node y p)=.node y (Gn.dQ p (.node x o)):=by show (if dH y x=true then _ else _)=_;rw [if_pos h]
theorem iY {x y:Int×Int}{o p:List (Gn.ai Lh)}(h:dH y x=false):bI (.node x o) (.node y p)=.node x (Gn.dQ o (.node y p)):=by show (if dH y x=true then _ else _)=_;rw [if_neg (by rw [h];simp)]
theorem Lh.aD (h:Lh):h.all.length=h.size:=(l9 h).symm
theorem lV (x:Int×Int):(Lh.one x).all=[x]:=by rw [Lh.one,fF];rfl
theorem iL (x:Int×Int):(Lh.one x).size=1:=by rw [l9,lV];rfl
theorem bP (a b:Lh):(bI a b).all.Perm (a.all++b.all):=by
 cases a with
 | nil=>rw [jA,all_nil];exact List.Perm.refl _
 | node x o =>
  cases b with
  | nil=>rw [fT,all_nil,List.append_nil]
  | node y p =>
   by_cases hl:dH y x=true
   ·rw [fw hl,fF y,fF y];have h1:=(Gn.iR p (.node x o)).flatMap_right Lh.all;rw [List.flatMap_cons]at h1;exact (List.Perm.cons y h1).trans List.perm_middle.symm
   ·rw [iY (by simpa using hl),fF x,fF x];have h1:=(Gn.iR o (.node y p)).flatMap_right Lh.all;rw [List.flatMap_cons]at h1;rw [List.cons_append];exact List.Perm.cons x (h1.trans List.perm_append_comm)
theorem bD (h:Lh)(x:Int×Int):(h.insert x).all.Perm (x::h.all):=by
 have:=bP (.one x) h;rw [lV]at this;exact this
theorem d9 (a b:Lh):(bI a b).size=a.size+b.size:=by
 have:=(bP a b).length_eq;rwa [List.length_append,Lh.aD,Lh.aD,Lh.aD]at this
theorem BZ (a b:Lh):rC a b≤3∧qP a b≤3:=by
 cases a with
 | nil=>exact ⟨Nat.zero_le _,Nat.zero_le _⟩
 | node x o =>
  cases b with
  | nil=>exact ⟨Nat.zero_le _,Nat.zero_le _⟩
  | node y p =>
   have h1:=Gn.mV o;have h2:=Gn.mV p;have h3:=(Gn.nQ o).1;have h4:=(Gn.nQ p).1;simp only [rC,qP];split<;>omega
theorem lD (h:Lh)(x:Int×Int):h.iJ x≤3:=(BZ _ _).1
theorem kZ (h:Lh)(x:Int×Int):h.iF x≤4:=by have:=(BZ (.one x) h).2;unfold Lh.iF;omega
theorem jD:∀(l:List (Int×Int)) (h:Lh),(l.foldl Lh.insert h).all.Perm (h.all++l)
 | [],h=>by simp
 | x::r,h=>by
  rw [List.foldl_cons];refine (jD r (h.insert x)).trans (((bD h x).append_right r).trans ?_);exact (List.perm_middle (a:=x) (l₁:=h.all) (l₂:=r)).symm
theorem fJ (l:List (Int×Int)):(fG l).all.Perm l:=by have:=jD l .nil;rwa [all_nil]at this
theorem kW (l:List (Int×Int)):(fG l).size=l.length:=by rw [←Lh.aD];exact (fJ l).length_eq
theorem lI (l:List (Int×Int))(x:Int×Int):fG (l++[x])=(fG l).insert x:=by simp [fG]
theorem iU:∀(l:List (Int×Int)) (h:Lh) (x:Int×Int),dG h (l++[x])=dG h l+(l.foldl Lh.insert h).iJ x
 | [],h,x=>by simp [dG]
 | y::l,h,x=>by simp only [List.cons_append,dG,List.foldl_cons];rw [iU l (h.insert y) x];omega
theorem iP:∀(l:List (Int×Int)) (h:Lh) (x:Int×Int),dD h (l++[x])=dD h l+(l.foldl Lh.insert h).iF x
 | [],h,x=>by simp [dD]
 | y::l,h,x=>by simp only [List.cons_append,dD,List.foldl_cons];rw [iP l (h.insert y) x];omega
theorem nH:∀(l:List (Int×Int)) (h:Lh),dG h l≤4*l.length∧dD h l≤4*l.length
 | [],_=>⟨Nat.le_refl _,Nat.le_refl _⟩
 | x::r,h=>by
  have h1:=nH r (h.insert x);have h2:=lD h x;have h3:=kZ h x;simp only [dG,dD,List.length_cons];omega
inductive Lh.ok:Lh→Prop
 | nil:Lh.ok .nil
 | node {x:Int×Int} {q:List (Gn.ai Lh)} (hq:Gn.fZ q) (hb:∀b∈Gn.aR q,b.ok) (hn:∀b∈Gn.aR q,b.some=true∧dH b.key x=false):Lh.ok (.node x q)
theorem uR:Lh.ok .nil := .nil
theorem nU (x:Int×Int):(Lh.one x).ok := .node Gn.mF (by intro b hb;cases hb) (by intro b hb;cases hb)
theorem gm (a b:Lh)(ha:a.ok)(hb:b.ok):(bI a b).ok:=by
 cases a with
 | nil=>exact hb
 | node x o =>
  cases b with
  | nil=>exact ha
  | node y p =>
   by_cases hl:dH y x=true
   ·rw [fw hl]
    cases hb with|node p1 p2 p3=>?_
    refine .node (Gn.jo _ p1) (fun e he=>?_) fun e he=>?_
    ·rcases List.mem_cons.1 ((Gn.iR p _).subset he) with rfl|h
     ·exact ha
     ·exact p2 e h
    ·rcases List.mem_cons.1 ((Gn.iR p _).subset he) with rfl|h
     ·exact ⟨rfl,pF hl⟩
     ·exact p3 e h
   ·have hl':dH y x=false:=by simpa using hl
    rw [iY hl']
    cases ha with|node p1 p2 p3=>?_
    refine .node (Gn.jo _ p1) (fun e he=>?_) fun e he=>?_
    ·rcases List.mem_cons.1 ((Gn.iR o _).subset he) with rfl|h
     ·exact hb
     ·exact p2 e h
    ·rcases List.mem_cons.1 ((Gn.iR o _).subset he) with rfl|h
     ·exact ⟨rfl,hl'⟩
     ·exact p3 e h
theorem gF {h:Lh}(x:Int×Int)(hk:h.ok):(h.insert x).ok:=gm _ _ (nU x) hk
theorem oo:∀(l:List (Int×Int)) (h:Lh),h.ok→(l.foldl Lh.insert h).ok
 | [],_,hk=>hk
 | x::r,h,hk=>oo r (h.insert x) (gF x hk)
theorem qd (l:List (Int×Int)):(fG l).ok:=oo l .nil uR
theorem G8 {h:Lh}(hk:h.ok):∀e∈h.all,dH e h.key=false:=by
 induction hk with
 | nil=>intro e he;rw [all_nil]at he;cases he
 | node hq hb hn ih =>
  intro e he;rw [fF]at he;rcases List.mem_cons.1 he with rfl|he
  ·exact qA.irrefl _
  ·obtain ⟨b,h1,h2⟩:=List.mem_flatMap.1 he;exact qA.ntrans _ _ _ (ih b h1 e h2) (hn b h1).2
theorem rO {h:Lh}(hs:h.some=true):h=.node h.key h.queue:=by
 cases h with
 | nil=>cases hs
 | node x q=>rfl
theorem vD {t:Gn.ai Lh}{r:List (Gn.ai Lh)}:least (t::r)∈Gn.aR (t::r):=(Gn.jU (h:=t::r) (by simp)).symm.subset (List.mem_cons_self ..)
theorem wH {t:Gn.ai Lh}{r:List (Gn.ai Lh)}{b:Lh}(h:b∈Gn.aR (Gn.nK (t::r))):b∈Gn.aR (t::r):=(Gn.jU (h:=t::r) (by simp)).symm.subset (List.mem_cons_of_mem _ h)
theorem nP {h:Lh}(hk:h.ok):h.pop.ok:=by
 cases h with
 | nil=>exact hk
 | node x q =>
  cases q with
  | nil=>exact uR
  | cons t r =>
   cases hk with|node hq hb hn=>?_
   have hf:=hb _ (vD (t:=t) (r:=r));have hs:=rO (hn _ (vD (t:=t) (r:=r))).1;have hf2:=hf;rw [hs]at hf2
   cases hf2 with|node f1 f2 f3=>?_
   refine .node (Gn.yg f1 (Gn.wD hq)) (fun e he=>?_) fun e he=>?_
   ·rcases List.mem_append.1 ((Gn.mQ _ _).subset he) with h|h
    ·exact f2 e h
    ·exact hb e (wH h)
   ·rcases List.mem_append.1 ((Gn.mQ _ _).subset he) with h|h
    ·exact f3 e h
    ·exact ⟨(hn e (wH h)).1,Gn.ql hq.hok (by simp) e (wH h)⟩
theorem rU {x:Int×Int}{q:List (Gn.ai Lh)}(hk:(Lh.node x q).ok):((Gn.aR q).flatMap Lh.all).Perm (Lh.node x q).pop.all:=by
 cases q with
 | nil=>show List.Perm [] (Lh.all .nil);rw [all_nil]
 | cons t r =>
  cases hk with|node hq hb hn=>?_
  have hs:=rO (hn _ (vD (t:=t) (r:=r))).1;have h1:=(Gn.jU (h:=t::r) (by simp)).flatMap_right Lh.all;have h2:=(Gn.mQ (least (t::r)).queue (Gn.nK (t::r))).flatMap_right Lh.all;rw [List.flatMap_append]at h2;rw [List.flatMap_cons,show (Gn.qY (t::r)).1=least (t::r) from rfl]at h1;refine h1.trans ?_;show List.Perm _ (Lh.node _ _).all;rw [fF];refine List.Perm.trans ?_ (List.Perm.cons _ h2.symm);conv=>lhs;rw [hs,fF]
  exact List.Perm.refl _
theorem Lh.oL {h:Lh}(hz:h.size=0):h=.nil:=by
 cases h with
 | nil=>rfl
 | node x o=>rw [l9,fF,List.length_cons]at hz;omega
theorem xq {h:Lh}(hk:h.ok):h.pop.size=h.size - 1:=by
 cases h with
 | nil=>rfl
 | node x o =>
  have:=(rU hk).length_eq;rw [Lh.aD]at this;rw [←this,l9,fF,List.length_cons];omega
structure Lh.good (h:Lh):Prop where
 ok:h.ok
 fit:fits h.all
theorem jQ {a b:Lh}(ha:a.good)(hb:b.good):(bI a b).good:=⟨gm _ _ ha.ok hb.ok,(ha.fit.join hb.fit).perm (bP a b).symm⟩
theorem kL {a:Lh}{x:Int×Int}(ha:a.good)(h:iw x.1∧iw x.2):(a.insert x).good:=⟨gF x ha.ok,(fits.more h ha.fit).perm (bD a x).symm⟩
theorem kT {l:List (Int×Int)}(h:fits l):(fG l).good:=⟨qd l,h.perm (fJ l).symm⟩
theorem jE {a:Lh}(ha:a.good):a.pop.good:=⟨nP ha.ok,by
 cases a with
 | nil=>show fits (Lh.all .nil);rw [all_nil];exact fits.nil
 | node x o =>
  have h:=ha.fit;rw [fF]at h;exact h.cons.2.perm (rU ha.ok)⟩
theorem rq (a b:Lh):dw (bI a b).all=dw (a.all++b.all):=bX (bP a b)
theorem nJ (a:Lh)(x:Int×Int):dw (a.insert x).all=dw (x::a.all):=bX (bD a x)
theorem nD (l:List (Int×Int)):dw (fG l).all=dw l:=bX (fJ l)
theorem jK {h:Lh}(hk:h.ok)(hne:h.min.2=true):dw h.all=h.min.1::dw h.pop.all:=by
 cases h with
 | nil=>cases hne
 | node x o =>
  rw [fF];have h1:∀e∈(Gn.aR o).flatMap Lh.all,dH e x=false:=fun e he=>G8 hk e (by rw [fF];exact List.mem_cons_of_mem _ he);rw [pU h1,bX (rU hk)];rfl
theorem kS {a:Lh}(h:a.ok):dw a.pop.all=(dw a.all).tail:=by
 cases a with
 | nil=>show dw (Lh.all .nil)=(dw (Lh.all .nil)).tail;rw [all_nil];simp [kr]
 | node x o=>rw [jK h rfl];rfl
theorem rE (t:Lh):t.some=decide (0<t.size):=by
 cases t with
 | nil=>rw [l9,all_nil];rfl
 | node x o=>rw [l9,fF];exact (decide_eq_true (Nat.succ_pos _)).symm
theorem jX (t:Lh):t.min.2=t.some:=rfl
theorem FT (t:Lh):t.min.2=decide (0<t.size):=by rw [jX,rE]
theorem Aw:∀(l:List Lh),(∀b∈l,b.some=true)→l.length≤(l.flatMap Lh.all).length
 | [],_=>Nat.le_refl _
 | b::r,h=>by
  have h1:=Aw r fun e he=>h e (List.mem_cons_of_mem _ he);have h2:=h b (List.mem_cons_self ..);rw [rE,l9]at h2;have h3:0<b.all.length:=of_decide_eq_true h2;rw [List.flatMap_cons,List.length_append,List.length_cons];omega
end Go.Proofs.YtmeodbjlmjpnbaaGreat.U.Bo
namespace Go.Proofs.YtmeodbjlmjpnbaaGreat.U.Bo
open Go.Sort Go.RowKit Go.Proofs.YtmeodbjlmjpnbaaGreat.U.Gn
end Go.Proofs.YtmeodbjlmjpnbaaGreat.U.Bo
namespace Go.Proofs.YtmeodbjlmjpnbaaGreat.U.Lt
open Go.Sort Go.RowKit
abbrev El:Type:=Option Addr
abbrev one (x:El):Value := .pointer x
abbrev zero:El:=none
abbrev dA (p:Option Addr)(n:Int):Value := .agg #[.pointer p,.int .i64 n]
theorem wJ (p:Option Addr)(xs:List El)(x:El)(w w':World)(b:Nat)(h:Ch one 318 w p xs)(hb:Below w.heap.size w w')(h0:w'.heap[b]?=some (.cells #[one x,.pointer p] 318 (0,0))):Ch one 318 w' (some ⟨b,0,none⟩) (x::xs) :=
 ⟨b,p,rfl,(Array.getElem?_eq_some_iff.1 h0).1,h0,h.stay hb⟩
theorem lm (p:Option Addr)(xs:List El)(n:Int)(x:El)(w:World)(h:Ch one 318 w p xs)(h0:0≤n)(h1:n<4611686018427387904):Calls Tryz.prog 163 #[dA p n,one x] w fun e w' =>
  ∃b,e=.returned (dA (some ⟨b,0,none⟩) (n+1))∧Ch one 318 w' (some ⟨b,0,none⟩) (x::xs)∧Below w.heap.size w w':=by
 have H:=hdz h;clear h;go_enter Tryz.func163,Tryz.ntmps163
 go_wp2
 refine bodyPost_ret (v:=dA (some ⟨w.heap.size+1+1,0,none⟩) (n+1)) (by simp [results,Tryz.results163,go_sem]) rfl ⟨_,rfl,?_⟩;have hb:Below w.heap.size w (((w.alloc (.cells #[.pointer p,.int .i64 n] 255)).alloc (.cells #[.pointer (some ⟨w.heap.size+1+1,0,none⟩),.int .i64 (n+1)] 255)).alloc (.cells #[one x,.pointer p] 318)):=(((Below.refl _ w).alloc (Nat.le_refl _) _).alloc (by simp) _).alloc (by simp;omega) _;refine ⟨wJ p xs x w _ _ H.out hb ?_,hb⟩;have:=World.alloc_heap_new ((w.alloc (.cells #[.pointer p,.int .i64 n] 255)).alloc (.cells #[.pointer (some ⟨w.heap.size+1+1,0,none⟩),.int .i64 (n+1)] 255)) (.cells #[one x,.pointer p] 318);simpa using this
theorem kK (n:Int)(w:World):Calls Tryz.prog 159 #[dA none n] w fun e w' =>
  e=.returned (.tuple #[one zero,.bool false])∧Below w.heap.size w w':=by
 go_enter Tryz.func159,Tryz.ntmps159
 go_wp2
 go_ret2
 exact ⟨rfl,bG _⟩
theorem jH (p:Option Addr)(x:El)(xs:List El)(n:Int)(w:World)(h:Ch one 318 w p (x::xs)):Calls Tryz.prog 159 #[dA p n] w fun e w' =>
  e=.returned (.tuple #[one x,.bool true])∧Below w.heap.size w w':=by
 obtain ⟨b,q,rfl,hb,hh, -⟩:=h;have hv:w.cell? ⟨b,0,none⟩=some (one x):=by simp [World.cell?,hh]
 clear hh;have hv1:=((Below.refl w.heap.size w).alloc (Nat.le_refl _) (.cells #[.pointer (some ⟨b,0,none⟩),.int .i64 n] 255)).cell (p:=⟨b,0,none⟩) hb;rw [hv]at hv1;clear hv;go_enter Tryz.func159,Tryz.ntmps159
 go_wp2
 go_ret2
 exact ⟨rfl,bG _⟩
theorem qW (n:Int)(w:World):Calls Tryz.prog 160 #[dA none n] w fun e w' =>
  e=.returned (dA none n)∧Below w.heap.size w w':=by
 go_enter Tryz.func160,Tryz.ntmps160
 go_wp2
 refine bodyPost_ret (v:=dA none n) (by simp [results,Tryz.results160,go_sem]) rfl ⟨rfl,?_⟩;exact ((Below.refl _ w).alloc (Nat.le_refl _) _).alloc (by simp) _
theorem kN (p:Option Addr)(x:El)(xs:List El)(n:Int)(w:World)(h:Ch one 318 w p (x::xs))(h0:0<n)(h1:n<4611686018427387904):Calls Tryz.prog 160 #[dA p n] w fun e w' =>
  ∃q,e=.returned (dA q (n - 1))∧Ch one 318 w' q xs∧Below w.heap.size w w':=by
 obtain ⟨b,q,rfl,hb,hh,hr⟩:=h;have hv:w.cell? ⟨b,1,none⟩=some (.pointer q):=by simp [World.cell?,hh]
 clear hh;have HR:=hdz hr;clear hr;have hb':Below w.heap.size w ((w.alloc (.cells #[.pointer (some ⟨b,0,none⟩),.int .i64 n] 255)).alloc (.cells #[.pointer none,.int .i64 0] 255)):=((Below.refl w.heap.size w).alloc (Nat.le_refl _) _).alloc (by simp) _;have hv1:=hb'.cell (p:=⟨b,1,none⟩) hb;rw [hv]at hv1;clear hv;have HB:=hdz hb';clear hb';go_enter Tryz.func160,Tryz.ntmps160
 go_wp2
 go_region
 all_goals
  go_wp2
  refine bodyPost_ret (v:=dA q (n - 1)) (by simp [results,Tryz.results160,go_sem]) rfl ⟨_,rfl,?_⟩;have hb2:Below w.heap.size w ((w.alloc (.cells #[.pointer (some ⟨b,0,none⟩),.int .i64 n] 255)).alloc (.cells #[.pointer q,.int .i64 (n - 1)] 255)).drew:=(((Below.refl w.heap.size w).alloc (Nat.le_refl _) _).alloc (by simp) _).drew;exact ⟨Ch.stay HR.out hb2,hb2⟩
theorem bS (p:Option Addr)(xs:List El)(n:Nat)(w:World)(h:Ch one 318 w p xs)(hn:xs.length=n)(h1:n<2147483648):Calls Tryz.prog 160 #[dA p n] w fun e w' =>
  ∃q,e=.returned (dA q ((n - 1:Nat):Int))∧Ch one 318 w' q xs.tail∧Below w.heap.size w w':=by
 cases xs with
 | nil =>
  obtain rfl:=h.nil;obtain rfl:n=0:=hn.symm;exact (qW _ w).mono fun e w' ⟨he,hb⟩=>⟨none,he,rfl,hb⟩
 | cons x xs =>
  refine (kN p x xs n w h (by simp at hn;omega) (by omega)).mono fun e w' ⟨q,he,hc,hb⟩=>⟨q,?_,hc,hb⟩;rw [he,show ((n - 1:Nat):Int)=(n:Int) - 1 from by simp at hn;omega]
end Go.Proofs.YtmeodbjlmjpnbaaGreat.U.Lt
namespace Go.Proofs.YtmeodbjlmjpnbaaGreat.U.Lt
open Go.Sort Go.RowKit Go.Shelf
attribute [local go_sem] Oper.semAt_some
theorem jd (p:Option Addr)(xs:List El)(k:Int)(n:Nat)(hn:1≤n)(m:Nat)(w:World)(hm:m≤w.heap.size)(h:Chain one 318 m w p xs) :
  AQ Fence.wide n Tryz.prog 257 #[dA p k] one m xs w:=fun l J W hW hJ hY h0=>by
 have hL:Chain one 318 m (W.alloc (.cells #[.pointer p,.int .i64 k] 255)) p xs:=Chain.below ((hW.mono hm).alloc (Nat.le_trans hm hW.size) _) h;have hJ1:=hJ _ _ (.cells #[.pointer p,.int .i64 k] 255) h0;refine callsIn_of_wp Tryz.func257 rfl trivial ?_ rfl;simp only [Tryz.ntmps257,List.size_toArray,List.length_cons,List.length_nil,Nat.reduceAdd,Nat.reduceSub,Array.replicate_succ,Array.replicate_zero,List.push_toArray,List.append_toArray,List.nil_append,List.cons_append];have HL:=hdz hL;have HJ:=hdz hJ1;have HY:=hdz hY;clear hL hJ1 hY h0 h hJ;gi_wp2
 gi_loopw [4] (fun c wr => ∃(pre rest:List El) (q:Option Addr),c=.pointer q∧xs=pre++rest∧Chain one 318 m wr q rest∧J pre wr)
  (fun c wr=>left one 318 m wr c)
 case atStart =>
  exact ⟨[],xs,p,rfl,rfl,HL.out,HJ.out⟩
 case round =>
  obtain ⟨pre,rest,q,rfl,hx,hl,hJs⟩:=hrel
  cases rest with
  | nil =>
   obtain rfl:q=none:=hl;gi_wp2
   go_end0
   rw [hx,List.append_nil];exact ⟨⟨_,rfl⟩,hJs⟩
  | cons x rest =>
   have hl':=hl;obtain ⟨b,q',rfl,hb,hh,hr⟩:=hl;have hv:wr.cell? ⟨b,0,none⟩=some (one x):=by simp [World.cell?,hh]
   have hq:wr.cell? ⟨b,1,none⟩=some (.pointer q'):=by simp [World.cell?,hh]
   obtain ⟨fn,tmps,assign,body,hy,hR⟩:=HY.out pre x wr hJs (by rw [hx];simp);gi_wp2
   refine hR.mono ?_;rintro e W3 ⟨rfl,hJ3,hk3⟩;have hq3:W3.cell? ⟨b,1,none⟩=some (.pointer q'):=(hk3.cell (p:=⟨b,1,none⟩) hb).trans hq;gi_wp2
   go_roundw
   case rel=>exact ⟨pre++[x],rest,q',rfl,by simp [hx],Chain.below hk3 hr,hJ3⟩
   case measure=>rw [left_eq (Chain.below hk3 hr),left_eq hl'];simp
def tQ (w:World)(ys:List El)(k:Int)(pre:List El)(W:World):Prop :=
 ∃q,aB W (w.heap.size+1) 255 (.pointer q) (.int .i64 (k+pre.length))∧Ch one 318 W q (pre.reverse++ys)∧aB W (w.heap.size+1+1) 255 (.pointer none) (.int .i64 0)∧Below w.heap.size w W
theorem qJ (w:World)(ys:List El)(k:Int)(B:Nat)(hB:w.heap.size≤B):OwnFrom B (tQ w ys k):=by
 rintro s A C row ⟨q,h1,h2,h3,h4⟩ hg hr;refine ⟨q,h1.kept hg (fun r e=>(hr r e).2),h2.own hg (fun r e=>(hr r e).2),h3.kept hg (fun r e=>(hr r e).2),h4.grown hg h4.size (fun r e=>Nat.le_trans hB (hr r e).1)⟩
theorem nO (p q:Option Addr)(xs ys:List El)(j k:Int)(w:World)(hp:Ch one 318 w p xs)(hq:Ch one 318 w q ys)(h0:0≤k)(h1:k<2147483648)(h2:xs.length<2147483648) :
  Calls Tryz.prog 329 #[dA p j,dA q k] w fun e w' =>
   ∃r,e=.returned (dA r (k+xs.length))∧Ch one 318 w' r (xs.reverse++ys)∧Below w.heap.size w w':=by
 refine (callsIn_wide (n:=3)).1 ?_;refine callsIn_of_wp_marks Tryz.func329 rfl trivial ?_ rfl;simp only [Tryz.ntmps329,List.size_toArray,List.length_cons,List.length_nil,Nat.reduceAdd,Nat.reduceSub,Array.replicate_succ,Array.replicate_zero,List.push_toArray,List.append_toArray,List.nil_append,List.cons_append];have HP:=hdz hp;have HQ:=hdz hq;clear hp hq;gi_wp2
 have hB0:Below w.heap.size w (((w.alloc (.cells #[.pointer p,.int .i64 j] 255)).alloc (.cells #[.pointer q,.int .i64 k] 255)).alloc (.cells #[.pointer none,.int .i64 0] 255)):=(((Below.refl _ w).alloc (Nat.le_refl _) _).alloc (by simp) _).alloc (by simp;omega) _;have bM:=(aB.new (w.alloc (.cells #[.pointer p,.int .i64 j] 255)) 255 (.pointer q) (.int .i64 k)).alloc (.cells #[.pointer none,.int .i64 0] 255);have bR:=aB.new ((w.alloc (.cells #[.pointer p,.int .i64 j] 255)).alloc (.cells #[.pointer q,.int .i64 k] 255)) 255 (.pointer none) (.int .i64 0);simp only [World.size_alloc]at bM bR;have HT:=jd p xs j (3 - 1) (by omega) w.heap.size _ hB0.size (Chain.below hB0 HP.out);have hcq:=HQ.out.stay hB0
 refine oq rfl (by omega) (gf := 257) (fs:=#[dA p j]) rfl trivial (enters_of Tryz.func257 (by kernel_rfl) rfl) HT hB0.size (tQ w ys k) (qJ w ys k _ hB0.size)
  ⟨q,by simpa using bM,by simpa using hcq,bR,hB0⟩
  (fun x=>{ tmps:=#[dA p j,dA q k,.pointer (some ⟨w.heap.size,0,none⟩),.pointer (some ⟨w.heap.size+1,0,none⟩),.pointer (some ⟨w.heap.size+1+1,0,none⟩),one x,dA p j,.func (.func 257) #[dA p j] #[],one x,undef,undef,undef,undef],defers:=[] }) ?assign ?body ?done
 case assign =>
  intro l x W K hK;gi_wp2
  exact hK
 case body =>
  rintro l pre x W ⟨r,hm,hc,hr,hb⟩ hlt;have c0:=hm.c0;have c1:=hm.c1;have HM:=hdz hm;have HC:=hdz hc;have HR:=hdz hr;have HB:=hdz hb;clear hm hc hr hb hcq HT bM bR hB0 HP HQ;gi_wp2_with (refine ⟨trivial,?_⟩;gi_at_call 163;refine (CallsIn.inRound l (callsIn_wide.2 (lm r _ _ x _ HC.out (by omega) (by omega)))).mono ?_;rintro e w' ⟨b,rfl,hc2,hb2⟩;have d0:=(HM.out.stay hb2).c0;have d1:=(HM.out.stay hb2).c1;have e0:=(HM.out.stay hb2).z0;have e1:=(HM.out.stay hb2).z1)
  have hm2:=HM.out.stay hb2;refine ⟨(gH hb2).trans (qc _ _ _ _ _),aL (hb2.mono HB.out.size) (by omega) _ _,some ⟨b,0,none⟩,?_,?_,(HR.out.stay hb2).aside (by omega) _ _,aL (HB.out.trans (hb2.mono HB.out.size)) (by omega) _ _⟩
  ·rw [show k+((pre++[x]).length:Int)=k+pre.length+1 by simp;omega];exact hm2.set _ _
  ·rw [show (pre++[x]).reverse++ys=x::(pre.reverse++ys) by simp];exact hc2.set2 hm2 (by decide) _ _
 case done =>
  rintro D W hD ⟨r,hm,hc,hr,hb⟩ hK;have c0:=hm.c0;have c1:=hm.c1;have d0:=hr.c0;have d1:=hr.c1;have e0:=hr.z0;have e1:=hr.z1;gi_wp2
  have hK2:=(qc 0 (w.heap.size+1+1) W (.pointer r) (.int .i64 (k+xs.length))).same D _ (Nat.zero_le _) hK rfl;have hr2:=(hr.set (.pointer r) (.int .i64 (k+xs.length))).put (.deferred none) hK2 rfl;have f0:=hr2.c0;have f1:=hr2.c1;refine ⟨by simp,.inl ⟨_,_,rfl,run_takeDeferred hK2,?_⟩⟩;refine ⟨dA r (k+xs.length),by simp [results,Tryz.results329,go_sem,f0,f1],r,rfl,?_,?_⟩
  ·exact (hc.set2 hr (by decide) _ _).own (grownBy_putObj' _ D _) (fun r e=>by cases e;exact ⟨_,hK2,rfl⟩)
  ·exact (aL hb (by omega) _ _).trans (belowK_b (w:=w) (Nat.le_refl _) _ D _ _ (by simp at hD;omega) hK2 rfl rfl)
theorem qB (p:Option Addr)(xs:List El)(n:Int)(w:World)(h:Ch one 318 w p xs)(h2:xs.length<2147483648):Calls Tryz.prog 328 #[dA p n] w fun e w' =>
  ∃q,e=.returned (dA q xs.length)∧Ch one 318 w' q xs.reverse∧Below w.heap.size w w':=by
 have H:=hdz h;clear h;go_enter Tryz.func328,Tryz.ntmps328
 go_wp2_with fail
 ((with_reducible refine (nO p none xs [] n 0 _ ((H.out.alloc _).alloc _) (Ch.none _) (by omega) (by omega) h2).mono ?_);rintro e w1 ⟨q,rfl,hc,hb⟩);have hr:=(aB.new (w.alloc (.cells #[.pointer p,.int .i64 n] 255)) 255 (.pointer none) (.int .i64 0)).stay hb;rw [World.size_alloc]at hr;have hb1:Below w.heap.size w w1:=(((Below.refl w.heap.size w).alloc (Nat.le_refl _) _).alloc (by simp) _).trans (hb.mono (by simp;omega));rw [List.append_nil]at hc;rw [Int.zero_add];have HC:=hdz hc;have HB:=hdz hb1;have HR:=hdz hr;have d0:=hr.c0;have d1:=hr.c1;have e0:=hr.z0;have e1:=hr.z1;clear hc hb hb1 hr H;go_wp2
 have hr2:=HR.out.set (.pointer q) (.int .i64 xs.length);have f0:=hr2.c0;have f1:=hr2.c1;refine bodyPost_ret (v:=dA q xs.length) (by simp [results,Tryz.results328,go_sem,f0,f1]) rfl ⟨_,rfl,HC.out.set2 HR.out (by decide) _ _,aL HB.out (by omega) _ _⟩
theorem nL (p q:Option Addr)(xs ys:List El)(n:Int)(k:Int)(w:World)(hp:Ch one 318 w p xs)(hq:Ch one 318 w q ys)(h0:0≤k)(h1:k<2147483648)(h2:xs.length<2147483648) :
  Calls Tryz.prog 326 #[dA p n,dA q k] w fun e w' =>
   ∃r,e=.returned (dA r (k+xs.length))∧Ch one 318 w' r (xs++ys)∧Below w.heap.size w w':=by
 have HP:=hdz hp;have HQ:=hdz hq;clear hp hq;go_enter Tryz.func326,Tryz.ntmps326
 go_wp2_with fail
 have hB0:Below w.heap.size w (((w.alloc (.cells #[.pointer p,.int .i64 n] 255)).alloc (.cells #[.pointer q,.int .i64 k] 255)).alloc (.cells #[.pointer none,.int .i64 0] 255)):=(((Below.refl _ w).alloc (Nat.le_refl _) _).alloc (by simp) _).alloc (by simp;omega) _;have bL:=((aB.new w 255 (.pointer p) (.int .i64 n)).alloc (.cells #[.pointer q,.int .i64 k] 255)).alloc (.cells #[.pointer none,.int .i64 0] 255);have bM:=(aB.new (w.alloc (.cells #[.pointer p,.int .i64 n] 255)) 255 (.pointer q) (.int .i64 k)).alloc (.cells #[.pointer none,.int .i64 0] 255);have bR:=aB.new ((w.alloc (.cells #[.pointer p,.int .i64 n] 255)).alloc (.cells #[.pointer q,.int .i64 k] 255)) 255 (.pointer none) (.int .i64 0);simp only [World.size_alloc]at bM bR;generalize (((w.alloc (.cells #[.pointer p,.int .i64 n] 255)).alloc (.cells #[.pointer q,.int .i64 k] 255)).alloc (.cells #[.pointer none,.int .i64 0] 255))=W3 at *;have HP3:=hdz (HP.out.stay hB0).drew;have HQ3:=hdz (HQ.out.stay hB0).drew;have HB3:=hdz hB0.drew;have BL:=hdz (show aB W3.drew _ _ _ _ from bL);have BM:=hdz (show aB W3.drew _ _ _ _ from bM);have BR:=hdz (show aB W3.drew _ _ _ _ from bR);have g0:=bL.c0;have g1:=bL.c1;have g2:=bM.c0;have g3:=bM.c1;clear hB0 bL bM bR HP HQ;generalize hx0:w.heap.size=m0 at *;generalize hx2:m0+1+1=m2 at *;generalize hx1:m0+1=m1 at *;have n02:m0≠m2:=by omega
 have n12:m1≠m2:=by omega
 have HM:=hdz (show m0≤m2 by omega);have HX:=hdz hx0;clear hx0 hx1 hx2
 go_region_held3 (fun w'=>w'.cell? ⟨m0,0,none⟩=some (.pointer p)∧w'.cell? ⟨m0,1,none⟩=some (.int .i64 n)∧w'.cell? ⟨m1,0,none⟩=some (.pointer q)∧w'.cell? ⟨m1,1,none⟩=some (.int .i64 k)) (first|go_keep|exact ⟨gG n02 l0 _ _,gG n02 l1 _ _,gG n12 l2 _ _,gG n12 l3 _ _⟩)
  (first|(go_at_call 328;((with_reducible refine (qB p xs n _ HP3.out h2).mono ?_);rintro e w4 ⟨r,rfl,hc4,hb4⟩;have HC4:=hdz hc4;have HB4:=hdz hb4;have k0:=(BL.out.stay hb4).c0;have k1:=(BL.out.stay hb4).c1;have k2:=(BM.out.stay hb4).c0;have k3:=(BM.out.stay hb4).c1;clear hc4 hb4))|(go_at_call 329;((with_reducible refine (nO r q xs.reverse ys _ k _ HC4.out (HQ3.out.stay HB4.out) h0 h1 (by simpa using h2)).mono ?_);rintro e w5 ⟨r5,rfl,hc5,hb5⟩;have HC5:=hdz hc5;have HB5:=hdz hb5;have l0:=((BL.out.stay HB4.out).stay hb5).c0;have l1:=((BL.out.stay HB4.out).stay hb5).c1;have l2:=((BM.out.stay HB4.out).stay hb5).c0;have l3:=((BM.out.stay HB4.out).stay hb5).c1;have d0:=((BR.out.stay HB4.out).stay hb5).c0;have d1:=((BR.out.stay HB4.out).stay hb5).c1;have e0:=((BR.out.stay HB4.out).stay hb5).z0;have e1:=((BR.out.stay HB4.out).stay hb5).z1;clear hc5 hb5)))
 clear g0 g1 g2 g3 k0 k1 k2 k3 l0 l1 l2 l3 d0 d1 e0 e1;go_wp2
 have hr5:=(BR.out.stay HB4.out).stay HB5.out;have hr6:=hr5.set (.pointer r5) (.int .i64 (k+xs.length));have f0:=hr6.c0;have f1:=hr6.c1;have hc5:=HC5.out;rw [List.reverse_reverse]at hc5;refine bodyPost_ret (v:=dA r5 (k+xs.length)) (by simp [results,Tryz.results326,go_sem,f0,f1]) rfl ⟨r5,rfl,hc5.set2 hr5 (by decide) _ _,?_⟩;have hs:=HB3.out.size;have hs4:=HB4.out.size;rw [HX.out]at hs ⊢;exact aL ((HB3.out.trans (HB4.out.mono hs)).trans (HB5.out.mono (Nat.le_trans hs hs4))) HM.out _ _
end Go.Proofs.YtmeodbjlmjpnbaaGreat.U.Lt
namespace Go.Proofs.YtmeodbjlmjpnbaaGreat.U.Lt
open Go.Sort Go.RowKit
def om (w:World)(n:Int)(xs:List El)(m0 m1:Nat)(v:Value)(W:World):Prop :=
 ∃(i L:Nat) (q:Option Addr),v=.int .i64 (n - i)∧L=xs.length - i∧i≤xs.length∧(0<i→(i:Int)≤n)∧aB W m0 255 (.pointer q) (.int .i64 L)∧Ch one 318 W q (xs.drop i)∧aB W m1 255 (.pointer none) (.int .i64 0)∧Below w.heap.size w W
theorem rD (p:Option Addr)(xs:List El)(n:Int)(w:World)(h:Ch one 318 w p xs)(h2:xs.length<2147483648)(hn0 : -9223372036854775808≤n)(hn1:n<9223372036854775808) :
  Calls Tryz.prog 162 #[dA p xs.length,.int .i64 n] w fun e w' =>
   ∃q,e=.returned (dA q ((xs.length - n.toNat:Nat):Int))∧Ch one 318 w' q (xs.drop n.toNat)∧Below w.heap.size w w':=by
 have H:=hdz h;clear h;go_enter Tryz.func162,Tryz.ntmps162
 go_wp2_with fail
 have hB0:Below w.heap.size w ((w.alloc (.cells #[.pointer p,.int .i64 xs.length] 255)).alloc (.cells #[.pointer none,.int .i64 0] 255)):=((Below.refl _ w).alloc (Nat.le_refl _) _).alloc (by simp) _;have bL:=(aB.new w 255 (.pointer p) (.int .i64 xs.length)).alloc (.cells #[.pointer none,.int .i64 0] 255);have bR:=aB.new (w.alloc (.cells #[.pointer p,.int .i64 xs.length] 255)) 255 (.pointer none) (.int .i64 0);simp only [World.size_alloc]at bR;have H0:=hdz (show om w n xs w.heap.size (w.heap.size+1) (.int .i64 n) _ from ⟨0,xs.length,p,by simp,by simp,Nat.zero_le _,by omega,bL,H.out.stay hB0,bR,hB0⟩);clear hB0 bL bR H;go_loopw [1] (fun v wr=>om w n xs w.heap.size (w.heap.size+1) v wr) (fun v _=>(intOf v).toNat)
 case atStart=>exact H0.out
 case round =>
  clear H0;obtain ⟨i,L,q,rfl,hL,hi,hin,hbl,hc,hbr,hb⟩:=hrel;have HL:=hdz hbl;have HR:=hdz hbr;have HC:=hdz hc;have HB:=hdz hb;have HN:=hdz hL;have c0:=hbl.c0;have c1:=hbl.c1;clear hbl hbr hc hb hL;by_cases hpos:0<n - i
  ·have g1:decide (0<n - (i:Int))=true:=by simpa using hpos
   cases hd:xs.drop i with
   | nil =>
    have hc:=HC.out;rw [hd]at hc;obtain rfl:=hc.nil;have hlen:xs.length≤i:=by simpa using hd
    have d0:=HR.out.c0;have d1:=HR.out.c1;have e0:=HR.out.z0;have e1:=HR.out.z1;clear hc;go_wp2_with fail
    have hr2:=HR.out.set (.pointer none) (.int .i64 L);have f0:=hr2.c0;have f1:=hr2.c1;refine bodyPost_ret (v:=dA none L) (by simp [results,Tryz.results162,go_sem,f0,f1]) rfl ⟨none,?_,?_,aL HB.out (by omega) _ _⟩
    ·rw [show L=xs.length - n.toNat from by have:=HN.out;omega]
    ·rw [List.drop_eq_nil_of_le (by omega:xs.length≤n.toNat)];exact Ch.none _
   | cons x rest =>
    have hc:=HC.out;rw [hd]at hc;obtain ⟨b,q',rfl, -⟩:=id hc
    have hlen:i<xs.length:=by
     have:=congrArg List.length hd;simp at this;omega
    have hrest:rest=xs.drop (i+1):=by
     have:=congrArg List.tail hd;simpa using this.symm
    have HC2:=hdz hc;have HT:=hdz hrest;have HI:=hdz hin;have H1:=hdz hlen;clear hc hrest hin hlen hd;go_wp2_with fail
    ((with_reducible refine (kN _ x rest L _ HC2.out (by have:=HN.out;have:=H1.out;omega) (by have:=HN.out;omega)).mono ?_);rintro e w2 ⟨q2,rfl,hc2,hb2⟩);have hl2:=HL.out.stay hb2;have d0:=hl2.c0;have d1:=hl2.c1;have e0:=hl2.z0;have e1:=hl2.z1;have HL2:=hdz hl2;have HC3:=hdz hc2;have HB2:=hdz hb2;clear hl2 hc2 hb2;go_wp2_with fail
    go_roundw
    case rel =>
     refine ⟨i+1,L - 1,q2,by go_num,by have:=HN.out;omega,H1.out,fun _=>by omega,?_,?_,(HR.out.stay HB2.out).aside (by omega) _ _,aL (HB.out.trans (HB2.out.mono HB.out.size)) (Nat.le_refl _) _ _⟩
     ·rw [show ((L - 1:Nat):Int)=(L:Int) - 1 from by have:=HN.out;have:=H1.out;omega];exact HL2.out.set _ _
     ·rw [←HT.out];exact HC3.out.set2 HL2.out (by decide) _ _
    case measure=>simp [intOf];omega
  ·have g1:decide (0<n - (i:Int))=false:=by simpa using hpos
   have d0:=HR.out.c0;have d1:=HR.out.c1;have e0:=HR.out.z0;have e1:=HR.out.z1;go_wp2_with fail
   have hr2:=HR.out.set (.pointer q) (.int .i64 L);have f0:=hr2.c0;have f1:=hr2.c1;have hin2:i=n.toNat:=by omega
   refine bodyPost_ret (v:=dA q L) (by simp [results,Tryz.results162,go_sem,f0,f1]) rfl ⟨q,?_,?_,aL HB.out (by omega) _ _⟩
   ·rw [show L=xs.length - n.toNat from by have:=HN.out;omega]
   ·rw [←hin2];exact HC.out.set2 HR.out (by decide) _ _
end Go.Proofs.YtmeodbjlmjpnbaaGreat.U.Lt
namespace Go.Proofs.YtmeodbjlmjpnbaaGreat.U.Lt
open Go.Sort Go.RowKit
def Ac (w:World)(xs:List El)(m0 m1:Nat)(v:Value)(W:World):Prop :=
 ∃(k L:Nat) (q:Option Addr),v=.int .i64 ((k:Int) - 1)∧k≤xs.length∧L=xs.length - k∧aB W m1 255 (.pointer q) (.int .i64 L)∧Ch one 318 W q (xs.drop k)∧aB W m0 255 (.pointer none) (.int .i64 0)∧Below w.heap.size w W
theorem mq (w:World):Below w.heap.size w { w with drawn:=w.drawn+1 }:=(Below.refl _ _).drew
theorem kC (A:Option Addr)(xs:List El)(n c:Nat)(w:World)(hn:n=xs.length)(hr:Row1 one w A xs)(h2:xs.length<2147483648) :
  Calls Tryz.prog 342 #[.slice A n c] w fun e w' =>
   ∃q,e=.returned (dA q xs.length)∧Ch one 318 w' q xs∧Below w.heap.size w w':=by
 have HR:=hdz hr;have HN:=hdz hn;have hn2:n<2147483648:=by omega
 clear hr hn h2;go_enter Tryz.func342,Tryz.ntmps342
 go_wp2_with fail
 have hB0:Below w.heap.size w ((w.alloc (.cells #[.pointer none,.int .i64 0] 255)).alloc (.cells #[.pointer none,.int .i64 0] 255)):=((Below.refl _ w).alloc (Nat.le_refl _) _).alloc (by simp) _;have bL:=(aB.new w 255 (.pointer none) (.int .i64 0)).alloc (.cells #[.pointer none,.int .i64 0] 255);have bR:=aB.new (w.alloc (.cells #[.pointer none,.int .i64 0] 255)) 255 (.pointer none) (.int .i64 0);simp only [World.size_alloc]at bR;have H0:=hdz (show Ac w xs w.heap.size (w.heap.size+1) (.int .i64 ((n:Int) - 1)) _ from ⟨n,0,none,rfl,by rw [HN.out];exact Nat.le_refl _,by rw [HN.out];simp,bR,by rw [HN.out,List.drop_length];exact Ch.none _,bL,hB0⟩);clear hB0 bL bR;go_loopw [4] (fun v wr=>Ac w xs w.heap.size (w.heap.size+1) v wr) (fun v _=>(intOf v+1).toNat)
 case atStart=>exact H0.out
 case round =>
  clear H0;obtain ⟨k,L,q,rfl,hk,hL,hbl,hc,hbr,hb⟩:=hrel;have HK:=hdz hk;have HL:=hdz hbl;have HE:=hdz hbr;have HC:=hdz hc;have HB:=hdz hb;have HM:=hdz hL;have c0:=hbl.c0;have c1:=hbl.c1;have hkn:k≤n:=by rw [HN.out];exact hk
  clear hbl hbr hc hb hL hk
  cases k with
  | zero =>
   have d0:=HE.out.c0;have d1:=HE.out.c1;have e0:=HE.out.z0;have e1:=HE.out.z1;go_wp2_with fail
   have hr2:=HE.out.set (.pointer q) (.int .i64 L);have f0:=hr2.c0;have f1:=hr2.c1;refine bodyPost_ret (v:=dA q L) (by simp [results,Tryz.results342,go_sem,f0,f1]) rfl ⟨q,?_,?_,aL HB.out (Nat.le_refl _) _ _⟩
   ·rw [show L=xs.length from by have:=HM.out;omega]
   ·have hc:=HC.out;rw [List.drop_zero]at hc;exact hc.set2 HE.out (by decide) _ _
  | succ k =>
   obtain ⟨b,o,rfl,hcell⟩:=HR.out (by have:=HK.out;omega);have hx:=hcell k HK.out;rw [←HB.out.cell (p:=⟨b,o+k,none⟩) (lt_of_cell hx)]at hx;clear hcell;generalize hxe:xs[k]'HK.out=x at hx;have HX:=hdz (show xs.drop k=x::xs.drop (k+1) from by rw [List.drop_eq_getElem_cons HK.out,hxe]);clear hxe;rw [show (((k+1:Nat):Int) - 1)=(k:Int) from by omega];go_wp2_with fail
   have HP:=hdz (fun w h=>lm q (xs.drop (k+1)) L x w h (by omega) (by have:=HM.out;have:=HN.out;omega));go_region_with (go_at_call 163;((with_reducible refine (HP.out _ HC.out.drew).mono ?_);rintro e w2 ⟨b2,rfl,hc2,hb2⟩;have HC2:=hdz hc2;have HB2:=hdz hb2;have hl2:=HL.out.stay (W':=w2) (mq wr |>.trans hb2);have d0:=hl2.c0;have d1:=hl2.c1;have e0:=hl2.z0;have e1:=hl2.z1;have HL2:=hdz hl2;clear hc2 hb2 hl2))
   all_goals go_wp2_with fail
   all_goals
    have hb2:Below wr.heap.size wr w2:=(mq wr).trans HB2.out;refine ⟨⟨k,L+1,some ⟨b2,0,none⟩,rfl,by have:=HK.out;omega,by have:=HK.out;have:=HM.out;omega,HL2.out.set _ _,?_,(HE.out.stay hb2).aside (by omega) _ _,aL (HB.out.trans (hb2.mono HB.out.size)) (by omega) _ _⟩,by simp [intOf]⟩;rw [HX.out];exact HC2.out.set2 HL2.out (by decide) _ _
end Go.Proofs.YtmeodbjlmjpnbaaGreat.U.Lt
namespace Go.Proofs.YtmeodbjlmjpnbaaGreat.U.Lt
open Go.Sort Go.RowKit Go.Shelf
attribute [local go_sem] Oper.semAt_some
theorem tT:(Tryz.prog.info? 297).map (fun i=>(i.zero,i.size,i.bytes))=some (some (one zero),1,8):=by kernel_rfl
def xC (w:World)(B m:Nat)(pre:List El)(W:World):Prop :=
 (∃v,Boxed W B 390 v∧W.ownsRow m 297 1 v pre.length (pre.map one)∧True)∧Below w.heap.size w W
theorem qp (p:Option Addr)(xs:List El)(w:World)(hp:Ch one 318 w p xs)(h2:xs.length<2147483648) :
  Calls Tryz.prog 247 #[dA p xs.length] w fun e w' =>
   ∃v,e=.returned v∧Mine one 297 w' w.heap.size v xs∧Below w.heap.size w w':=by
 obtain ⟨i0,hi,hz0,hz1,hz2⟩:=info_parts tT;refine (callsIn_wide (n:=3)).1 ?_;refine callsIn_of_wp_marks Tryz.func247 rfl trivial ?_ rfl;simp only [Tryz.ntmps247,List.size_toArray,List.length_cons,List.length_nil,Nat.reduceAdd,Nat.reduceSub,Array.replicate_succ,Array.replicate_zero,List.push_toArray,List.append_toArray,List.nil_append,List.cons_append];have HP:=hdz hp;clear hp;gi_wp2_with (refine wpListIn_make_own _ rfl _ _ 390 rfl w.heap.size 297 i0 (one zero) 1 Tryz.underlying390 hi hz0 hz1 .i64 .i64 (xs.length:Int) xs.length rfl rfl rfl (by rw [hz2];omega) (by unfold maxLen;omega) (by simp) ?_;intro w1 hown hgrow;have hb1:Below (w.alloc (.cells #[.pointer p,.int .i64 xs.length] 255)).heap.size (w.alloc (.cells #[.pointer p,.int .i64 xs.length] 255)) w1:=⟨hgrow.os,hgrow.tape,hgrow.output,hgrow.size,fun k hk=>hgrow.block k hk (by simp)⟩;have bL:=((aB.new w 255 (.pointer p) (.int .i64 xs.length)).stay hb1).alloc (.cells #[.slice (some ⟨w.heap.size+1,0,none⟩) 0 xs.length] 390);have c0:=bL.c0;have c1:=bL.c1)
 have hs1:=hb1.size;simp only [World.size_alloc]at hs1 hown;have hB0:Below w.heap.size w (w1.alloc (.cells #[.slice (some ⟨w.heap.size+1,0,none⟩) 0 xs.length] 390)):=(((Below.refl w.heap.size w).alloc (Nat.le_refl _) _).trans (hb1.mono (by simp))).alloc (by omega) _;have bV:=Boxed.new w1 390 (.slice (some ⟨w.heap.size+1,0,none⟩) 0 xs.length);have HO:=hdz (hown.alloc (.cells #[.slice (some ⟨w.heap.size+1,0,none⟩) 0 xs.length] 390));have HT:=jd p xs xs.length (3 - 1) (by omega) w.heap.size _ hB0.size (Chain.below hB0 HP.out);have HS:=hdz (show w.heap.size+1≤w1.heap.size from hs1);clear hown hgrow hb1 bL c0 c1 hs1
 refine oq rfl (by omega) (gf := 257) (fs:=#[dA p xs.length]) rfl trivial (enters_of Tryz.func257 (by kernel_rfl) rfl) HT hB0.size (xC w w1.heap.size w.heap.size)
  (OwnFrom.and (Own.from (holdsRow_own w.heap.size w1.heap.size 390 297 1 (fun pre:List El=>pre.length) (fun pre=>pre.map one) (fun _ _=>True)) _) (ownFrom_below (Nat.le_refl _) hB0.size))
  ⟨⟨_,bV,HO.out,trivial⟩,hB0⟩
  (fun x=>{ tmps:=#[dA p xs.length,.pointer (some ⟨w.heap.size,0,none⟩),.slice none 0 0,.pointer (some ⟨w1.heap.size,0,none⟩),one x,.pointer (some ⟨w.heap.size,1,none⟩),.int .i64 xs.length,.slice (some ⟨w.heap.size+1,0,none⟩) 0 xs.length,dA p xs.length,.func (.func 257) #[dA p xs.length] #[],one x,undef,undef,undef,undef,undef],defers:=[] }) ?assign ?body ?done
 case assign =>
  intro l x W K hK;gi_wp2
  exact hK
 case body =>
  rintro l pre x W ⟨⟨v,hv,hrow, -⟩,hB⟩ hlt;have hc:=hv.cell;clear HT hB0 bV HO HP;gi_wp2_with (gi_at_builtin;refine wpListIn_append_own _ rfl _ _ 390 rfl w.heap.size 297 i0 (one zero) 1 8 Tryz.underlying390 hi hz0 hz1 hz2 rfl (by decide) _ _ _ rfl (hrow.alloc _) ⟨W.heap.size,0,none⟩ 1 1 [one x] rfl rfl (cell_one_new _ _ _) (by simp [Value.oneCell']) (by unfold maxLen;omega) (by omega) (by have:=hB.size;simp;omega) ?_;intro v' w2 hown' hgrow _;obtain ⟨g',cap',rfl⟩:=ownsRow_succ hown';obtain ⟨hv1,hv2,hr2,hk2,hb2⟩:=hv.appended (by decide) hrow hB.size (by have:=HS.out;omega) hown' hgrow;have hc1:=hv1.cell;have hf1:=hv1.frozen)
  exact ⟨hk2.from _,hb2,⟨_,hv2,by simpa using hr2,trivial⟩,hB.trans hb2⟩
 case done =>
  rintro D W hD ⟨⟨v,hv,hrow, -⟩,hB⟩ hK;have hc:=hv.cell;clear HT bV HO HP;gi_wp2
  refine ⟨by simp,.inl ⟨_,_,rfl,run_takeDeferred hK,?_⟩⟩;exact ⟨_,results_tmp rfl _ _ _,v,rfl,ownsRow_putObj hrow _ hK rfl,hB.trans (belowK_b (w:=w) (Nat.le_refl _) W D _ _ (Nat.le_trans hB0.size hD) hK rfl rfl)⟩
end Go.Proofs.YtmeodbjlmjpnbaaGreat.U.Lt
namespace Go.Proofs.YtmeodbjlmjpnbaaGreat.U.Lt
open Go.Sort Go.RowKit
def LL (W:World)(p:Option Addr)(n:Nat)(xs:List El):Prop:=Ch one 318 W p xs∧n=xs.length∧n<2147483648
theorem LL.stay {A B:World}{p:Option Addr}{n:Nat}{xs:List El}(h:LL A p n xs)(hb:Below A.heap.size A B):LL B p n xs:=⟨h.1.stay hb,h.2⟩
theorem LL.alloc {A:World}{p:Option Addr}{n:Nat}{xs:List El}(h:LL A p n xs)(o:Obj):LL (A.alloc o) p n xs:=⟨h.1.alloc o,h.2⟩
theorem LL.ch {A:World}{p:Option Addr}{n:Nat}{xs:List El}(h:LL A p n xs):Ch one 318 A p xs:=h.1
theorem LL.len {A:World}{p:Option Addr}{n:Nat}{xs:List El}(h:LL A p n xs):n=xs.length:=h.2.1
theorem LL.lt {A:World}{p:Option Addr}{n:Nat}{xs:List El}(h:LL A p n xs):n<2147483648:=h.2.2
theorem LL.none (A:World):LL A Option.none 0 []:=⟨Ch.none _,rfl,by decide⟩
def Gives (w:World)(xs:List El)(e:Ending)(w':World):Prop:=∃q,∃n:Nat,e=.returned (dA q n)∧LL w' q n xs∧Below w.heap.size w w'
theorem pY {w:World}{p:Option Addr}{n:Nat}{xs:List El}(x:El)(h:LL w p n xs)(hn:n+1<2147483648):Calls Tryz.prog 163 #[dA p n,one x] w (Gives w (x::xs)) :=
 (lm p xs n x w h.1 (by omega) (by omega)).mono fun e w' ⟨b,he,hc,hb⟩=>⟨_,n+1,by rw [he];simp,⟨hc,by rw [h.len];simp,hn⟩,hb⟩
theorem oC {w:World}{p:Option Addr}{n:Nat}{xs:List El}(h:LL w p n xs):Calls Tryz.prog 160 #[dA p n] w (Gives w xs.tail) :=
 (bS p xs n w h.1 h.len.symm h.lt).mono fun e w' ⟨q,he,hc,hb⟩=>⟨q,n - 1,he,⟨hc,by rw [h.len];simp,by have:=h.lt;omega⟩,hb⟩
theorem Cq {w:World}{p:Option Addr}{n:Nat}{xs:List El}(h:LL w p n xs):Calls Tryz.prog 328 #[dA p n] w (Gives w xs.reverse) :=
 (qB p xs n w h.1 (by rw [←h.len];exact h.lt)).mono fun e w' ⟨q,he,hc,hb⟩=>⟨q,n,by rw [he,h.len],⟨hc,by rw [h.len];simp,h.lt⟩,hb⟩
theorem zC {w:World}{p q:Option Addr}{n k:Nat}{xs ys:List El}(h:LL w p n xs)(h':LL w q k ys)(hk:n+k<2147483648):Calls Tryz.prog 326 #[dA p n,dA q k] w (Gives w (xs++ys)) :=
 (nL p q xs ys n k w h.1 h'.1 (by omega) (by have:=h'.lt;omega) (by rw [←h.len];exact h.lt)).mono fun e w' ⟨r,he,hc,hb⟩=>⟨r,n+k,by rw [he,←h.len];simp;omega,⟨hc,by rw [h.len,h'.len];simp,hk⟩,hb⟩
theorem uV {w:World}{p:Option Addr}{n:Nat}{xs:List El}(z:Int)(h:LL w p n xs)(h0 : -9223372036854775808≤z)(h1:z<9223372036854775808):Calls Tryz.prog 162 #[dA p n,.int .i64 z] w (Gives w (xs.drop z.toNat)):=by
 have:=rD p xs z w h.1 (by rw [←h.len];exact h.lt) h0 h1;rw [←h.len]at this;exact this.mono fun e w' ⟨q,he,hc,hb⟩=>⟨q,n - z.toNat,he,⟨hc,by rw [h.len];simp,by have:=h.lt;omega⟩,hb⟩
theorem Bg {w:World}{A:Option Addr}{n c:Nat}{xs:List El}(hn:n=xs.length)(hr:Row1 one w A xs)(h2:n<2147483648):Calls Tryz.prog 342 #[.slice A n c] w (Gives w xs) :=
 (kC A xs n c w hn hr (by omega)).mono fun e w' ⟨q,he,hc,hb⟩=>⟨q,n,by rw [he,hn],⟨hc,hn,h2⟩,hb⟩
theorem qK {w:World}{p:Option Addr}{n:Nat}{xs:List El}(h:LL w p n xs):Calls Tryz.prog 247 #[dA p n] w fun e w' =>
  ∃A c,e=.returned (.slice A n c)∧Mine one 297 w' w.heap.size (.slice A n c) xs∧Row1 one w' A xs∧n≤c∧Below w.heap.size w w':=by
 have:=qp p xs w h.1 (by rw [←h.len];exact h.lt);rw [←h.len]at this;refine this.mono fun e w' ⟨v,he,hm,hb⟩=>?_;obtain ⟨A,c,rfl,hr,hc, -, -⟩:=hm.form;rw [←h.len]at he hm hc;exact ⟨A,c,he,hm,hr,hc,hb⟩
end Go.Proofs.YtmeodbjlmjpnbaaGreat.U.Lt
namespace Go.Proofs.YtmeodbjlmjpnbaaGreat.U
open Go.Sort Go.RowKit Go.Proofs.YtmeodbjlmjpnbaaGreat.U.Gn
structure aN where
 h:Bo.Lh
 a:Nat
def aN.key (x:aN):Int×Int:=x.h.key
instance:Gn.Key aN:=⟨aN.key⟩
instance:Inhabited aN:=⟨⟨.nil,0⟩⟩
abbrev ai:=Gn.ai aN
abbrev ay:=Gn.ay aN
def oI:Option ai→Option ai→Option ai
 | none,b=>b
 | some a,none=>some a
 | some a,some b=>some (fu a b)
def AZ (y:aN)(a b:Option ai):Option ai:=match oI a b with
 | none=>some (bY y)
 | some t=>some (pE y t)
def bZ:Option ai→Option ai→Nat
 | some _,some _=>1
 | _,_=>0
def bF:Option ai→Nat
 | none=>0
 | some t=>t.size
def Dl:Option ai→List aN
 | none=>[]
 | some t=>t.all
theorem pI (a b:Option ai):bF (oI a b)=bF a+bF b:=by
 cases a<;>cases b<;>simp [oI,bF,jJ]
structure Lh where
 ts:List ai
def Lh.nil:Lh:=⟨[]⟩
def Lh.size (h:Lh):Nat:=ah h.ts
def Lh.all (h:Lh):List aN:=aR h.ts
def Lh.min (h:Lh):aN×Bool:=qY h.ts
def Lh.some (h:Lh):Bool:=h.min.2
def Lh.one (x:aN):Lh:=⟨[bY x]⟩
def bI (a b:Lh):Lh:=⟨nu a.ts b.ts⟩
def aQ (a b:Lh):Nat:=fO a.ts b.ts
def Lh.insert (h:Lh)(x:aN):Lh:=⟨dQ h.ts x⟩
def Lh.iJ (h:Lh):Nat:=eX h.ts
def Lh.iF (h:Lh):Nat:=eG h.ts
def Lh.pop (h:Lh):Lh:=⟨nK h.ts⟩
def Lh.jf (h:Lh):Nat:=qG h.ts
def Lh.jl (h:Lh):Nat:=qH h.ts
def Lh.bT (h:Lh):Nat:=h.ts.length - 1
def dG:Lh→List aN→Nat
 | _,[]=>0
 | h,x::r=>h.iJ+dG (h.insert x) r
def dD:Lh→List aN→Nat
 | _,[]=>0
 | h,x::r=>h.iF+dD (h.insert x) r
theorem mJ:∀(l:List aN) (h:Lh),(l.foldl Lh.insert h).ts=l.foldl dQ h.ts
 | [],_=>rfl
 | x::r,h=>by rw [List.foldl_cons,List.foldl_cons,mJ r (h.insert x)];rfl
theorem Lh.aD (h:Lh):h.all.length=h.size:=aG _
theorem bP (a b:Lh):(bI a b).all.Perm (a.all++b.all):=mQ _ _
theorem bD (h:Lh)(x:aN):(h.insert x).all.Perm (x::h.all):=iR _ _
theorem gZ (h:Lh)(x:aN):(h.insert x).size=h.size+1:=uQ _ _
theorem lD (h:Lh):h.iJ≤2:=mV _
theorem kZ (h:Lh):h.iF≤2:=(nQ h.ts).1
theorem iU:∀(l:List aN) (h:Lh) (x:aN),dG h (l++[x])=dG h l+(l.foldl Lh.insert h).iJ
 | [],h,x=>by simp [dG]
 | y::l,h,x=>by simp only [List.cons_append,dG,List.foldl_cons];rw [iU l (h.insert y) x];omega
theorem iP:∀(l:List aN) (h:Lh) (x:aN),dD h (l++[x])=dD h l+(l.foldl Lh.insert h).iF
 | [],h,x=>by simp [dD]
 | y::l,h,x=>by simp only [List.cons_append,dD,List.foldl_cons];rw [iP l (h.insert y) x];omega
theorem nH:∀(l:List aN) (h:Lh),dG h l≤2*l.length∧dD h l≤2*l.length
 | [],_=>⟨Nat.le_refl _,Nat.le_refl _⟩
 | x::r,h=>by
  have h1:=nH r (h.insert x);have h2:=lD h;have h3:=kZ h;simp only [dG,dD,List.length_cons];omega
def Lh.ok (h:Lh):Prop:=fZ h.ts
theorem Lh.oL {h:Lh}(hz:h.size=0):h=.nil:=by
 obtain ⟨l⟩:=h;have:l=[]:=rV hz;subst this;rfl
theorem xq (h:Lh):h.pop.size=h.size - 1:=by
 by_cases hne:h.ts=[]
 ·unfold Lh.pop Lh.size;rw [hne];rfl
 ·have:=Dc hne;unfold Lh.pop Lh.size;show ah (nK h.ts)=ah h.ts - 1;omega
theorem dX (h:Lh):h.ts.length≤h.size:=by
 obtain ⟨l⟩:=h;show l.length≤ah l;induction l with
 | nil=>exact Nat.le_refl _
 | cons t r ih=>simp only [List.length_cons,ah,Gn.ai.size];omega
theorem kF (a b:Lh):aQ a b≤a.size+b.size:=by
 have h1:=Cy a.ts b.ts;have h2:=dX a;have h3:=dX b;unfold aQ;omega
theorem kz (h:Lh):h.bT≤h.size:=by have:=dX h;unfold Lh.bT;omega
theorem lN (h:Lh):h.jf≤2*h.size∧h.jl≤2*h.size:=by
 obtain ⟨l⟩:=h;match l with
 | []=>exact ⟨Nat.zero_le _,Nat.zero_le _⟩
 | t::r =>
  have hl:=dz (l:=t::r) (by simp);have hk:aO (t::r) (ak (t::r))=((t::r)[ak (t::r)]).ks.list.reverse:=by unfold aO;rw [List.getElem?_eq_getElem hl]
  have hb:dB (t::r) (ak (t::r))=((t::r)[ak (t::r)]).bs:=by unfold dB;rw [List.getElem?_eq_getElem hl]
  have h1:=nN (aK (t::r) (ak (t::r)));have h2:=kH (aO (t::r) (ak (t::r))) (dF (aK (t::r) (ak (t::r))));have h3:=dX ⟨aK (t::r) (ak (t::r))⟩;have h4:=(eH hl).length_eq;rw [aG,List.length_append,aG,Gn.ai.aD]at h4;have h5:=((t::r)[ak (t::r)]).ks.fE;have h6:(aO (t::r) (ak (t::r))).length=((t::r)[ak (t::r)]).ks.len:=by rw [hk,List.length_reverse,Gn.ay.lF]
  have h7:=qQ (dB (t::r) (ak (t::r))) (cu (t::r) (ak (t::r)));have h8:((t::r)[ak (t::r)]).size=1+((t::r)[ak (t::r)]).bs.length+((t::r)[ak (t::r)]).ks.size:=rfl;rw [hb]at h7;simp only [Lh.size]at h3;show qG (t::r)≤2*ah (t::r)∧qH (t::r)≤2*ah (t::r);simp only [qG,qH,dR];rw [hb];omega
end Go.Proofs.YtmeodbjlmjpnbaaGreat.U
namespace Go.Proofs.YtmeodbjlmjpnbaaGreat.U
open Go.Sort Go.RowKit Go.Proofs.YtmeodbjlmjpnbaaGreat.U.Gn
def dV (t:TypeId):Prop:=t=322∨t=332∨t=334∨t=259
theorem gL:¬dV 89 := by unfold dV;decide
abbrev Kp (W W':World):Prop:=bO dV W W'
theorem Kp.below {W W':World}(h:Below W.heap.size W W'):Kp W W':=bO.below h
def iI (W:World)(x:aN):Prop:=∃q n z:Value,W.heap[x.a]?=some (.cells #[.int .i64 x.key.1,.int .i64 x.key.2,q,n,z] 259 (0,0))
def tu (W:World):List aN→Option Addr→Prop
 | [],p=>p=none
 | x::xs,p => ∃(b:Nat) (q:Option Addr),p=some ⟨b,0,none⟩∧W.heap[b]?=some (.cells #[.pointer (some ⟨x.a,0,none⟩),.pointer q] 332 (0,0))∧iI W x∧tu W xs q
def dK (x:aN)(bp:Option Addr)(r:Int)(kp:Option Addr)(o:Int):Obj :=
 .cells #[.pointer (some ⟨x.a,0,none⟩),.pointer bp,.int .i64 r,.pointer kp,.int .i64 o] 322 (0,0)
def uf (W:World):ay→Option Addr→Prop
 | .nil,p=>p=none
 | .cons x bs ks rest,p => ∃(c b:Nat) (q bp kp:Option Addr),p=some ⟨c,0,none⟩∧W.heap[c]?=some (.cells #[.pointer (some ⟨b,0,none⟩),.pointer q] 334 (0,0)) ∧
   W.heap[b]?=some (dK x bp ks.len kp (bs.length+ks.size:Nat))∧iI W x∧tu W bs bp∧uf W ks kp∧uf W rest q
def oz (W:World)(b:Nat)(t:ai):Prop:=∃(bp kp:Option Addr),W.heap[b]?=some (dK t.x bp t.ks.len kp (t.bs.length+t.ks.size:Nat))∧iI W t.x∧tu W t.bs bp∧uf W t.ks kp
def gQ (W:World)(p:Option Addr):Option ai→Prop
 | none=>p=none
 | some t => ∃b,p=some ⟨b,0,none⟩∧oz W b t
section
variable {W W':World}
theorem iI.kp (h:Kp W W'){x:aN}(hx:iI W x):iI W' x:=by obtain ⟨q,n,z,hb⟩:=hx;exact ⟨q,n,z,h _ _ _ (.inr (.inr (.inr rfl))) hb⟩
theorem tu.kp (h:Kp W W'):∀{xs:List aN} {p:Option Addr},tu W xs p→tu W' xs p
 | [],_,hp=>hp
 | _::_,_,⟨b,q,e,hb,hx,hr⟩=>⟨b,q,e,h _ _ _ (.inr (.inl rfl)) hb,hx.kp h,tu.kp h hr⟩
theorem uf.kp (h:Kp W W'):∀{ks:ay} {p:Option Addr},uf W ks p→uf W' ks p
 | .nil,_,hp=>hp
 | .cons _ _ _ _,_,⟨c,b,q,bp,kp,e,hc,hb,hx,h1,h2,h3⟩=>⟨c,b,q,bp,kp,e,h _ _ _ (.inr (.inr (.inl rfl))) hc,h _ _ _ (.inl rfl) hb,hx.kp h,h1.kp h,uf.kp h h2,uf.kp h h3⟩
theorem oz.kp (h:Kp W W'){b:Nat}{t:ai}(hn:oz W b t):oz W' b t:=by
 obtain ⟨bp,kp,hb,hx,h1,h2⟩:=hn;exact ⟨bp,kp,h _ _ _ (.inl rfl) hb,hx.kp h,h1.kp h,h2.kp h⟩
theorem gQ.kp (h:Kp W W'){p:Option Addr}{t:Option ai}(ht:gQ W p t):gQ W' p t:=by
 cases t with
 | none=>exact ht
 | some t=>obtain ⟨b,e,hn⟩:=ht;exact ⟨b,e,hn.kp h⟩
theorem oz.stay {b:Nat}{t:ai}(hn:oz W b t)(h:Below W.heap.size W W'):oz W' b t:=hn.kp (Kp.below h)
theorem gQ.stay {p:Option Addr}{t:Option ai}(hn:gQ W p t)(h:Below W.heap.size W W'):gQ W' p t:=hn.kp (Kp.below h)
theorem tu.stay {p:Option Addr}{t:List aN}(hn:tu W t p)(h:Below W.heap.size W W'):tu W' t p:=hn.kp (Kp.below h)
theorem uf.stay {p:Option Addr}{t:ay}(hn:uf W t p)(h:Below W.heap.size W W'):uf W' t p:=hn.kp (Kp.below h)
theorem oz.lt {b:Nat}{t:ai}(hn:oz W b t):b<W.heap.size:=by obtain ⟨bp,kp,hb, -⟩:=hn;exact lt_of_heap hb
structure Am (W:World)(b:Nat)(x:aN)(bp:Option Addr)(r:Int)(kp:Option Addr)(o:Int):Prop where
 c0:W.cell? ⟨b,0,none⟩=some (.pointer (some ⟨x.a,0,none⟩))
 c2:W.cell? ⟨b,1,none⟩=some (.pointer bp)
 c3:W.cell? ⟨b,2,none⟩=some (.int .i64 r)
 c4:W.cell? ⟨b,3,none⟩=some (.pointer kp)
 c5:W.cell? ⟨b,4,none⟩=some (.int .i64 o)
theorem six {b:Nat}{x:aN}{bp kp:Option Addr}{r o:Int}(h:W.heap[b]?=some (dK x bp r kp o)):Am W b x bp r kp o:=by
 constructor<;>simp [World.cell?,h,dK]
theorem Am.below {B:Nat}{b:Nat}{x:aN}{bp kp:Option Addr}{r o:Int}(h:Am W b x bp r kp o)(hb:Below B W W')(hB:b<B):Am W' b x bp r kp o :=
 ⟨(hb.cell (p:=⟨b,0,none⟩) hB).trans h.c0,(hb.cell (p:=⟨b,1,none⟩) hB).trans h.c2,(hb.cell (p:=⟨b,2,none⟩) hB).trans h.c3,(hb.cell (p:=⟨b,3,none⟩) hB).trans h.c4,(hb.cell (p:=⟨b,4,none⟩) hB).trans h.c5⟩
theorem iI.below {B:Nat}{x:aN}(h:iI W x)(hb:Below B W W')(hB:x.a<B):iI W' x:=by obtain ⟨q,n,z,e⟩:=h;exact ⟨q,n,z,(hb.block x.a hB).trans e⟩
theorem iI.lt {x:aN}(h:iI W x):x.a<W.heap.size:=by obtain ⟨q,n,z,e⟩:=h;exact lt_of_heap e
theorem iI.c0 {x:aN}(h:iI W x):W.cell? ⟨x.a,0,none⟩=some (.int .i64 x.key.1):=by obtain ⟨q,n,z,e⟩:=h;simp [World.cell?,e]
theorem iI.c1 {x:aN}(h:iI W x):W.cell? ⟨x.a,1,none⟩=some (.int .i64 x.key.2):=by obtain ⟨q,n,z,e⟩:=h;simp [World.cell?,e]
theorem iI.stay {x:aN}(h:iI W x)(hb:Below W.heap.size W W'):iI W' x:=h.below hb h.lt
theorem oz.key {b:Nat}{t:ai}(hn:oz W b t):iI W t.x:=by obtain ⟨bp,kp, -,hx, -⟩:=hn;exact hx
end
end Go.Proofs.YtmeodbjlmjpnbaaGreat.U
namespace Go.Proofs.YtmeodbjlmjpnbaaGreat.U
open Go.Sort Go.RowKit Go.Proofs.YtmeodbjlmjpnbaaGreat.U.Gn
abbrev hv (x:aN):Value := .pointer (some ⟨x.a,0,none⟩)
theorem vV (x:aN)(w:World)(hx:iI w x):Calls Tryz.prog 212 #[hv x] w fun e w'=>e=.returned (el x.key)∧Below w.heap.size w w':=by
 have hb1:Below w.heap.size w (w.alloc (.cells #[.int .i64 0,.int .i64 0] 29)):=(Below.refl w.heap.size w).alloc (Nat.le_refl _) _;have h6:=hx.stay hb1;have c0:=h6.c0;have c1:=h6.c1;have HB:=hdz ((Below.refl w.heap.size w).alloc (Nat.le_refl _) (.cells #[.int .i64 x.key.1,.int .i64 x.key.2] 29));clear h6 hx hb1;go_enter Tryz.func212,Tryz.ntmps212
 go_wp2
 refine bodyPost_ret (v:=el x.key) (by simp [results,Tryz.results212,go_sem]) rfl ⟨rfl,?_⟩;exact HB.out
theorem idle (w:World):CallsD Tryz.prog 187 #[] .returning w fun e u' w'=>e=.returned (.tuple #[])∧u'=.returning∧w'=w:=by
 refine callsD_of_wpS Tryz.func187 rfl fun c₀ cs hu=>?_;apply wpS_region
 cases c₀
 simp_all [wpOpsS,go_sem,recoverD,bodyPostS,results,Tryz.ntmps187,Tryz.results187]
theorem fV (x:aN)(w:World)(hx:iI w x):Calls Tryz.prog 176 #[hv x] w fun e w'=>e=.returned (el x.key)∧Below w.heap.size w w':=by
 have hm:∀(n:Nat) (w:World),(method (n+1) 125 (.pointer (some ⟨x.a,0,none⟩)) "Key").run Tryz.prog w=.ok (212,.pointer (some ⟨x.a,0,none⟩)) w:=fun _ _=>by kernel_rfl
 have hb0:Below w.heap.size w (w.alloc (.cells #[.int .i64 0,.int .i64 0] 29)):=(Below.refl w.heap.size w).alloc (Nat.le_refl _) _;have HX:=hdz (hx.stay hb0);have HB:=hdz hb0;obtain ⟨p,q,hk⟩:∃p q,x.key=(p,q):=⟨_,_,rfl⟩;have HK:=hdz hk;clear hx hk hb0;go_enter_defers Tryz.func176,Tryz.ntmps176
 go_wp2_with fail
 ((with_reducible refine (vV x _ HX.out).mono ?_);rintro e w1 ⟨rfl,hb1⟩);rw [HK.out];have hp:=(bn.new w 0 0 29).below hb1 (by simp);have hb:=HB.out.trans (hb1.mono HB.out.size);have hs:=hp.set p q;obtain ⟨e0,e1,f0,f1, -⟩:=hp;clear hb1;clear HB HX;go_wp2_with fail
 refine leaves_cons (f := 187) (args:=#[]) (by simp) (by simp [go_sem]) ?_;refine (idle _).mono ?_;rintro e u' w'' ⟨rfl,rfl,rfl⟩;obtain ⟨k0,k1, -⟩:=hs;have hv:Below w.heap.size w ((w1.setCell ⟨w.heap.size,0,none⟩ (.int .i64 p)).setCell ⟨w.heap.size,1,none⟩ (.int .i64 q)):=(hb.setCell (Nat.le_refl _) _).setCell (Nat.le_refl _) _;simp [Leaves,settle,results,Tryz.results176,go_sem,k0,k1,hv,HK.out]
end Go.Proofs.YtmeodbjlmjpnbaaGreat.U
namespace Go.Proofs.YtmeodbjlmjpnbaaGreat.U
open Go.Sort Go.RowKit Go.Proofs.YtmeodbjlmjpnbaaGreat.U.Gn
def bU (mo:Option Nat)(c m:Int)(t:Option ai)(w:World)(e:Ending)(w':World):Prop:=∃p,e=.returned (.pointer p)∧gQ w' p t∧aW w' mo c m∧Bt mo w w'
theorem oP (p q:Option Addr)(w:World):Calls Tryz.prog 185 #[.pointer p,.pointer q] w fun e w' =>
  e=.returned (.pointer (some ⟨w.heap.size,0,none⟩))∧w'=w.alloc (.cells #[.pointer p,.pointer q] 334):=by
 go_enter Tryz.func185,Tryz.ntmps185
 go_wp2
 go_ret
 exact ⟨rfl,rfl⟩
theorem oV (x:aN)(q:Option Addr)(w:World):Calls Tryz.prog 177 #[hv x,.pointer q] w fun e w' =>
  ∃b,e=.returned (.pointer (some ⟨b,0,none⟩))∧w'.heap[b]?=some (.cells #[.pointer (some ⟨x.a,0,none⟩),.pointer q] 332 (0,0))∧Below w.heap.size w w':=by
 go_enter Tryz.func177,Tryz.ntmps177
 go_wp2
 go_ret
 exact ⟨_,rfl,aJ rfl,bG _⟩
theorem j5 (mo:Option Nat)(c m:Int)(x:aN)(w:World)(hx:iI w x)(h:aW w mo c m)(h0:0≤m)(h1:m<4611686018427387904):Calls Tryz.prog 165 #[aF mo,hv x] w
  (bU mo c (m+1) (some (bY x)) w):=by
 have H:=hdz h;have HX:=hdz hx;clear h hx;go_enter Tryz.func165,Tryz.ntmps165
 go_wp2_with fail
 ((with_reducible refine (mZ mo c m _ H.out h0 h1).mono ?_);rintro e w1 ⟨rfl,hm,hb⟩);have HM:=hdz hm;have HB:=hdz hb;have HK:=hdz (HX.out.kp (hb.oG H.out gL));clear hm hb H HX;go_wp2
 go_ret
 exact ⟨_,rfl,⟨w1.heap.size,rfl,none,none,heap_alloc_new w1 _,HK.out.stay (bG _),rfl,rfl⟩,HM.out.alloc _,HB.out.alloc _⟩
end Go.Proofs.YtmeodbjlmjpnbaaGreat.U
namespace Go.Proofs.YtmeodbjlmjpnbaaGreat.U
open Go.Sort Go.RowKit Go.Proofs.YtmeodbjlmjpnbaaGreat.U.Gn
theorem size_at {b:Nat}{x:aN}{bp kp:Option Addr}{r o:Int}(w:World)(h:Am w b x bp r kp o)(h0:0≤o)(h1:o<1073741824) :
  Calls Tryz.prog 186 #[.pointer (some ⟨b,0,none⟩)] w fun e w'=>e=.returned (.int .i64 (o+1))∧w'=w:=by
 have c5:=h.c5;clear h;go_enter Tryz.func186,Tryz.ntmps186
 go_wp2
 go_ret
 exact ⟨rfl,rfl⟩
def EO:Option ai→Int
 | none => -1
 | some t=>t.ks.len
theorem jG (p:Option Addr)(t:Option ai)(w:World)(h:gQ w p t):Calls Tryz.prog 161 #[.pointer p] w fun e w'=>e=.returned (.int .i64 (EO t))∧w'=w:=by
 cases t with
 | none =>
  obtain rfl:=h;go_enter Tryz.func161,Tryz.ntmps161
  go_wp2
  go_ret
  exact ⟨rfl,rfl⟩
 | some t =>
  obtain ⟨b,rfl,bp,kp,hb, -⟩:=h;have c3:=(six hb).c3;clear hb;go_enter Tryz.func161,Tryz.ntmps161
  go_wp2
  go_ret
  exact ⟨rfl,rfl⟩
def lG:Option ai→Value
 | none=>.tuple #[.pointer none,.bool false]
 | some t=>.tuple #[hv t.x,.bool true]
theorem kU (p:Option Addr)(t:Option ai)(w:World)(h:gQ w p t):Calls Tryz.prog 341 #[.pointer p] w fun e w'=>e=.returned (lG t)∧Below w.heap.size w w':=by
 cases t with
 | none =>
  obtain rfl:=h;go_enter Tryz.func341,Tryz.ntmps341
  go_wp2
  refine bodyPost_ret (v:=lG none) (by simp [results,Tryz.results341,go_sem,lG]) rfl ⟨rfl,?_⟩;exact Below.refl _ _
 | some t =>
  obtain ⟨b,rfl,bp,kp,hb, -⟩:=h;obtain ⟨x,bs,ks⟩:=t;have h6:=six hb;have c0:=h6.c0;clear hb h6;go_enter Tryz.func341,Tryz.ntmps341
  go_wp2
  refine bodyPost_ret (v:=lG (some ⟨x,bs,ks⟩)) (by simp [results,Tryz.results341,go_sem,lG]) rfl ⟨rfl,?_⟩;exact Below.refl _ _
end Go.Proofs.YtmeodbjlmjpnbaaGreat.U
namespace Go.Proofs.YtmeodbjlmjpnbaaGreat.U
open Go.Sort Go.RowKit Go.Proofs.YtmeodbjlmjpnbaaGreat.U.Gn
def oH (x:aN):Value := .pointer (some ⟨x.a,0,none⟩)
abbrev j3 (w:World)(base:Nat)(v:Value)(xs:List aN):Prop:=Mine oH 125 w base v xs
theorem Gt:(Tryz.prog.info? 125).map (fun i=>(i.zero,i.size,i.bytes))=some (some (.pointer none),1,8):=by kernel_rfl
theorem tX (w:World)(base:Nat)(v:Value)(xs:List aN)(x:aN)(hown:j3 w base v xs)(hlen:xs.length<1073741824)(hb:base≤w.heap.size) :
  ∃v' w',(Builtin.append_ #[382, 382] 382 #[v,.slice (some ⟨w.heap.size,0,none⟩) 1 1]).run Tryz.prog (w.alloc (.cells #[.pointer (some ⟨x.a,0,none⟩)] 125))=.ok v' w'∧j3 w' base v' (xs++[x])∧Below base w w':=by
 obtain ⟨i0,hi,hz0,hz1,hz2⟩:=info_parts Gt;have hown':(w.alloc (.cells #[.pointer (some ⟨x.a,0,none⟩)] 125)).ownsRow base 125 1 v xs.length (xs.map oH):=World.ownsRow.alloc hown _
 obtain ⟨g,c,w',h1,h2,h3, -, -⟩:=run_append_lies (P:=Tryz.prog) (w:=w.alloc (.cells #[.pointer (some ⟨x.a,0,none⟩)] 125)) 382 382 base 125 i0 _ 1 8 Tryz.underlying382 hi hz0 hz1 hz2 rfl (by omega)
  _ xs.length (xs.map oH) hown' ⟨w.heap.size,0,none⟩ 1 1 [.pointer (some ⟨x.a,0,none⟩)] rfl
  (fun j u hu=>by
   rw [jY];have e1:(w.alloc (.cells #[.pointer (some ⟨x.a,0,none⟩)] 125)).heap[w.heap.size]?=some (.cells #[.pointer (some ⟨x.a,0,none⟩)] 125 (0,0)):=aJ rfl;unfold World.cell?;rw [e1];simpa using hu) (by intro u hu;simp at hu;subst hu;rfl) (by omega) (by unfold maxLen;omega) (by omega) (by simp;omega) _ rfl
 refine ⟨_,w',h1,?_,below_grown ((Below.refl _ _).alloc hb _) h3 (by simp;omega) (fun g hg=>hown.block g hg)⟩;unfold j3 Mine;rw [List.length_append,List.map_append];exact h2
def DC (base:Nat)(xs:List aN)(w:World)(e:Ending)(w':World):Prop:=∃v,e=.returned v∧j3 w' base v xs∧Below base w w'
theorem ou (w0:World)(bs:List aN)(p:Option Addr)(hp:tu w0 bs p)(base:Nat)(hb0:w0.heap.size≤base)(v:Value)(ys:List aN)(w:World)(hW:Below w0.heap.size w0 w)(hbw:base≤w.heap.size)(hv:j3 w base v ys)(hl:ys.length+bs.length<1073741824) :
  Calls Tryz.prog 264 #[.pointer p,v] w (DC base (ys++bs) w):=by
 go_enter Tryz.func264,Tryz.ntmps264
 go_wp2_with fail
 have H:=hdz (af hp (af hv (af hW hl)));clear hp hv hW hl;go_loopg [0,1] bs.length (fun k c u wr => ∃(pre rest:List aN) (q:Option Addr),c=.pointer q∧bs=pre++rest∧k=rest.length∧tu w0 rest q∧j3 wr base u (ys++pre)∧Below base w wr)
 case atStart=>exact ⟨[],bs,p,rfl,rfl,rfl,H.out.1,by rw [List.append_nil];exact H.out.2.1,Below.refl _ _⟩
 case round =>
  obtain ⟨pre,rest,q,rfl,hx,hk,hr,hown,hbe⟩:=hrel;have hbw2:base≤wr.heap.size:=Nat.le_trans hbw hbe.size
  cases rest with
  | nil =>
   obtain rfl:=hr;have A:=hdz (af hx (af hown hbe));clear hx hown hbe hk;go_wp2_with fail
   go_ret
   obtain ⟨hx,hown,hbe⟩:=A.out;rw [List.append_nil]at hx;exact ⟨_,rfl,by rw [hx];exact hown,hbe⟩
  | cons x rest =>
   obtain ⟨b,q',rfl,hh, -,hr'⟩:=hr;have hb0':Below w0.heap.size w0 wr:=H.out.2.2.1.trans (hbe.mono hb0);have hlt:=lt_of_heap hh;have hh1:=(hb0'.block b hlt).trans hh;have c0:wr.cell? ⟨b,0,none⟩=some (.pointer (some ⟨x.a,0,none⟩)):=by simp [World.cell?,hh1]
   have hlen:(ys++pre).length<1073741824:=by
    have h1:=congrArg List.length hx;have h2:=H.out.2.2.2;simp only [List.length_append,List.length_cons]at h1 ⊢;omega
   obtain ⟨u',w2,hrun,hown2,hb2⟩:=tX wr base _ (ys++pre) x hown hlen hbw2;have hb2':Below w0.heap.size w0 w2:=hb0'.trans (hb2.mono hb0);have hh2:=(hb2'.block b hlt).trans hh;have c2:w2.cell? ⟨b,1,none⟩=some (.pointer q'):=by simp [World.cell?,hh2]
   have A:=hdz (af hx (af hown2 (af (hbe.trans hb2) (af hr' hk))));clear hx hown hbe hown2 hb2 hb2' hr' hh hh1 hh2 hb0' hk hlen;go_wp2_with (at_builtin;refine wpList_append_run rfl _ _ _ rfl _ _ _ _ rfl rfl hrun ?_)
   obtain ⟨hx,hown2,hbe,hr',hk⟩:=A.out;go_roundg rest.length
   case measure=>rw [hk];simp
   case rel=>exact ⟨pre++[x],rest,q',rfl,by rw [hx];simp,rfl,hr',by rw [←List.append_assoc];exact hown2,hbe⟩
end Go.Proofs.YtmeodbjlmjpnbaaGreat.U
namespace Go.Proofs.YtmeodbjlmjpnbaaGreat.U
open Go.Sort Go.RowKit Go.Proofs.YtmeodbjlmjpnbaaGreat.U.Gn
theorem oZ (mo:Option Nat)(q:Option Addr)(w:World):Calls Tryz.prog 175 #[aF mo,.pointer none,.pointer q] w fun e w'=>e=.returned (.pointer q)∧w'=w:=by
 go_enter Tryz.func175,Tryz.ntmps175
 go_wp2_with fail
 go_ret
 exact ⟨rfl,rfl⟩
theorem sV (mo:Option Nat)(b:Nat)(w:World):Calls Tryz.prog 175 #[aF mo,.pointer (some ⟨b,0,none⟩),.pointer none] w fun e w'=>e=.returned (.pointer (some ⟨b,0,none⟩))∧w'=w:=by
 go_enter Tryz.func175,Tryz.ntmps175
 go_wp2_with fail
 go_ret
 exact ⟨rfl,rfl⟩
theorem aC {W W':World}{b:Nat}{x:aN}{bp kp:Option Addr}{r o:Int}(h:W.heap[b]?=some (dK x bp r kp o))(hk:Kp W W'):Am W' b x bp r kp o:=six (hk b _ _ (.inl rfl) h)
structure nY (mo:Option Nat)(w:World)(c m:Int)(w':World):Prop where
 bt:Bt mo w w'
 mt:aW w' mo c m
 kp:Kp w w'
section
variable {mo:Option Nat}{w w' w'':World}{c m c' m':Int}
theorem nY.refl (h:aW w mo c m):nY mo w c m w:=⟨Bt.refl _ _,h,bO.refl _⟩
theorem nY.stay (h:nY mo w c m w')(hb:Below w'.heap.size w' w''):nY mo w c m w'':=⟨h.bt.trans (Bt.aV hb),h.mt.stay hb,h.kp.trans (Kp.below hb)⟩
theorem nY.alloc (h:nY mo w c m w')(o:Obj):nY mo w c m (w'.alloc o):=h.stay (bG o)
theorem nY.drew (h:nY mo w c m w'):nY mo w c m w'.drew:=h.stay ((Below.refl _ _).drew)
theorem nY.turn (h:nY mo w c m w')(hm:aW w'' mo c' m')(hb:Bt mo w' w''):nY mo w c' m' w'':=⟨h.bt.trans hb,hm,h.kp.trans (hb.oG h.mt gL)⟩
end
theorem u7 (mo:Option Nat)(c m:Int)(a b:Nat)(x y:aN)(aas bbs:List aN)(aks bks:ay)(w:World)(hv:dH y.key x.key=true)(hm:aW w mo c m)(h0:0≤c)(h1:c<2305843009213693952)(h2:0≤m)(h3:m<2305843009213693952)
  (ha:oz w a ⟨x,aas,aks⟩) (hb:oz w b ⟨y,bbs,bks⟩) (ka:1+aas.length+aks.size<536870912) (kb:1+bbs.length+bks.size<536870912) :
  Calls Tryz.prog 175 #[aF mo,.pointer (some ⟨a,0,none⟩),.pointer (some ⟨b,0,none⟩)] w (bU mo (c+1) (m+1) (some ⟨y,bbs,.cons x aas aks bks⟩) w):=by
 obtain ⟨ap,akp,hah,hax,hab,haw⟩:=ha;obtain ⟨bp,bkp,Iz,hbx,hbb,hbw⟩:=hb;have h6:=aC hah (bO.refl w);have g6:=aC Iz (bO.refl w);have a0:=h6.c0;have b0:=g6.c0;have HM:=hdz hm;have HA:=hdz hah;have HB:=hdz Iz;have HX:=hdz (af hax hbx);have HL:=hdz (af hab (af haw (af hbb hbw)));have HV:=hdz hv;have HK:=hdz (af ka kb);have HR:=hdz (af aks.fE bks.fE);clear hm hah Iz hax hbx hab haw hbb hbw h6 g6 hv ka kb;go_enter Tryz.func175,Tryz.ntmps175
 go_wp2_with fail
 go_region_held3 (fun w'=>w'.cell? ⟨a,0,none⟩=some (.pointer (some ⟨x.a,0,none⟩))∧w'.cell? ⟨b,0,none⟩=some (.pointer (some ⟨y.a,0,none⟩))) (go_keep)
  (first|(go_at_call 140;((with_reducible refine (lM mo c m y.key x.key _ K2.out.mt h0 (by omega)).mono ?_);rintro e w3 ⟨rfl,hm3,hb3⟩;rw [HV.out];have K3:=hdz (K2.out.turn hm3 hb3);have f0:=(aC HA.out K3.out.kp).c0;have f2:=(aC HB.out K3.out.kp).c0;clear hm3 hb3))|(go_at_call 176;((with_reducible refine (fV y _ (HX.out.2.stay ((Below.refl _ _).drew))).mono ?_);rintro e w1 ⟨rfl,hb1⟩;have K1:=hdz ((nY.refl HM.out).drew.stay hb1);have d0:=(aC HA.out K1.out.kp).c0;have d2:=(aC HB.out K1.out.kp).c0;clear hb1))|(go_at_call 176;((with_reducible refine (fV x _ (HX.out.1.kp K1.out.kp)).mono ?_);rintro e w2 ⟨rfl,hb2⟩;have K2:=hdz (K1.out.stay hb2);have e0:=(aC HA.out K2.out.kp).c0;have e2:=(aC HB.out K2.out.kp).c0;clear hb2)))
 clear a0 b0 d0 d2 e0 e2 f0 f2 K1 K2 HM;go_wp2_with fail
 ((with_reducible refine (mZ mo (c+1) m _ K3.out.mt h2 (by omega)).mono ?_);rintro e w4 ⟨rfl,hm4,hb4⟩);have K4:=hdz (K3.out.turn hm4 hb4);clear hm4 hb4 K3;have s6:=aC HB.out K4.out.kp;have c0:=s6.c0;have c2:=s6.c2;have c3:=s6.c3;have c4:=s6.c4;have c5:=s6.c5;clear s6;go_wp2_with fail
 go_region_held3 (fun w'=>w'.cell? ⟨b,0,none⟩=some (.pointer (some ⟨y.a,0,none⟩))∧w'.cell? ⟨b,1,none⟩=some (.pointer bp)∧w'.cell? ⟨b,2,none⟩=some (.int .i64 (bks.len:Int))∧w'.cell? ⟨b,3,none⟩=some (.pointer bkp)∧w'.cell? ⟨b,4,none⟩=some (.int .i64 (bbs.length+bks.size:Nat))) (go_keep)
  (first|(go_at_call 185;((with_reducible refine (oP (some ⟨a,0,none⟩) bkp _).mono ?_);rintro e w5 ⟨rfl,hw5⟩;have P5:=hdz (show w5.heap[w4.drew.heap.size]?=some (.cells #[.pointer (some ⟨a,0,none⟩),.pointer bkp] 334 (0,0)) by rw [hw5];exact aJ rfl);have K5:=hdz (show nY mo w (c+1) (m+1) w5 by rw [hw5];exact K4.out.drew.alloc _);have s6:=aC HB.out K5.out.kp;have d0:=s6.c0;have d2:=s6.c2;have d3:=s6.c3;have d4:=s6.c4;have d5:=s6.c5;clear hw5 s6))|(go_at_call 186;((with_reducible refine (size_at _ (aC HA.out K5.out.kp) (by omega) (by have:=HK.out;omega)).mono ?_);rintro e w6 ⟨rfl,rfl⟩)))
 clear c0 c2 c3 c4 c5 d0 d2 d3 d4 d5;go_wp2_with fail
 go_ret
 obtain ⟨ka,kb⟩:=HK.out;obtain ⟨ra,rb⟩:=HR.out;have e1:IntKind.i64.wrap ((bks.len:Int)+1)=((Gn.ay.cons x aas aks bks).len:Int):=by rw [IntKind.wrap_i64];simp only [Gn.ay.len];omega
 have e2:IntKind.i64.wrap ((bbs.length:Int)+bks.size+((aas.length:Int)+aks.size+1))=((bbs.length+(Gn.ay.cons x aas aks bks).size:Nat):Int):=by rw [IntKind.wrap_i64];simp only [Gn.ay.size];omega
 rw [e1,e2];obtain ⟨hab,haw,hbb,hbw⟩:=HL.out;have hk:=(K5.out.alloc (dK y bp ((Gn.ay.cons x aas aks bks).len:Int) (some ⟨w4.heap.size,0,none⟩) ((bbs.length+(Gn.ay.cons x aas aks bks).size:Nat):Int)));refine ⟨_,rfl,⟨w6.heap.size,rfl,bp,some ⟨w4.heap.size,0,none⟩,aJ rfl,HX.out.2.kp hk.kp,(hbb).kp hk.kp,⟨w4.heap.size,a,bkp,ap,akp,rfl,?_,hk.kp _ _ _ (.inl rfl) HA.out,HX.out.1.kp hk.kp,(hab).kp hk.kp,(haw).kp hk.kp,(hbw).kp hk.kp⟩⟩,hk.mt,hk.bt⟩;exact (Kp.below (bG _)) _ _ _ (.inr (.inr (.inl rfl))) P5.out
theorem su (mo:Option Nat)(c m:Int)(a b:Nat)(x y:aN)(aas bbs:List aN)(aks bks:ay)(w:World)(hv:dH y.key x.key=false)(hm:aW w mo c m)(h0:0≤c)(h1:c<2305843009213693952)(h2:0≤m)(h3:m<2305843009213693952)
  (ha:oz w a ⟨x,aas,aks⟩) (hb:oz w b ⟨y,bbs,bks⟩) (ka:1+aas.length+aks.size<536870912) (kb:1+bbs.length+bks.size<536870912) :
  Calls Tryz.prog 175 #[aF mo,.pointer (some ⟨a,0,none⟩),.pointer (some ⟨b,0,none⟩)] w (bU mo (c+1) (m+1) (some ⟨x,aas,.cons y bbs bks aks⟩) w):=by
 obtain ⟨ap,akp,hah,hax,hab,haw⟩:=ha;obtain ⟨bp,bkp,Iz,hbx,hbb,hbw⟩:=hb;have h6:=aC hah (bO.refl w);have g6:=aC Iz (bO.refl w);have a0:=h6.c0;have b0:=g6.c0;have HM:=hdz hm;have HA:=hdz hah;have HB:=hdz Iz;have HX:=hdz (af hax hbx);have HL:=hdz (af hab (af haw (af hbb hbw)));have HV:=hdz hv;have HK:=hdz (af ka kb);have HR:=hdz (af aks.fE bks.fE);clear hm hah Iz hax hbx hab haw hbb hbw h6 g6 hv ka kb;go_enter Tryz.func175,Tryz.ntmps175
 go_wp2_with fail
 go_region_held3 (fun w'=>w'.cell? ⟨a,0,none⟩=some (.pointer (some ⟨x.a,0,none⟩))∧w'.cell? ⟨b,0,none⟩=some (.pointer (some ⟨y.a,0,none⟩))) (go_keep)
  (first|(go_at_call 140;((with_reducible refine (lM mo c m y.key x.key _ K2.out.mt h0 (by omega)).mono ?_);rintro e w3 ⟨rfl,hm3,hb3⟩;rw [HV.out];have K3:=hdz (K2.out.turn hm3 hb3);have f0:=(aC HA.out K3.out.kp).c0;have f2:=(aC HB.out K3.out.kp).c0;clear hm3 hb3))|(go_at_call 176;((with_reducible refine (fV y _ (HX.out.2.stay ((Below.refl _ _).drew))).mono ?_);rintro e w1 ⟨rfl,hb1⟩;have K1:=hdz ((nY.refl HM.out).drew.stay hb1);have d0:=(aC HA.out K1.out.kp).c0;have d2:=(aC HB.out K1.out.kp).c0;clear hb1))|(go_at_call 176;((with_reducible refine (fV x _ (HX.out.1.kp K1.out.kp)).mono ?_);rintro e w2 ⟨rfl,hb2⟩;have K2:=hdz (K1.out.stay hb2);have e0:=(aC HA.out K2.out.kp).c0;have e2:=(aC HB.out K2.out.kp).c0;clear hb2)))
 clear a0 b0 d0 d2 e0 e2 f0 f2 K1 K2 HM;go_wp2_with fail
 ((with_reducible refine (mZ mo (c+1) m _ K3.out.mt h2 (by omega)).mono ?_);rintro e w4 ⟨rfl,hm4,hb4⟩);have K4:=hdz (K3.out.turn hm4 hb4);clear hm4 hb4 K3;have s6:=aC HA.out K4.out.kp;have c0:=s6.c0;have c2:=s6.c2;have c3:=s6.c3;have c4:=s6.c4;have c5:=s6.c5;clear s6;go_wp2_with fail
 go_region_held3 (fun w'=>w'.cell? ⟨a,0,none⟩=some (.pointer (some ⟨x.a,0,none⟩))∧w'.cell? ⟨a,1,none⟩=some (.pointer ap)∧w'.cell? ⟨a,2,none⟩=some (.int .i64 (aks.len:Int))∧w'.cell? ⟨a,3,none⟩=some (.pointer akp)∧w'.cell? ⟨a,4,none⟩=some (.int .i64 (aas.length+aks.size:Nat))) (go_keep)
  (first|(go_at_call 185;((with_reducible refine (oP (some ⟨b,0,none⟩) akp _).mono ?_);rintro e w5 ⟨rfl,hw5⟩;have P5:=hdz (show w5.heap[w4.drew.heap.size]?=some (.cells #[.pointer (some ⟨b,0,none⟩),.pointer akp] 334 (0,0)) by rw [hw5];exact aJ rfl);have K5:=hdz (show nY mo w (c+1) (m+1) w5 by rw [hw5];exact K4.out.drew.alloc _);have s6:=aC HA.out K5.out.kp;have d0:=s6.c0;have d2:=s6.c2;have d3:=s6.c3;have d4:=s6.c4;have d5:=s6.c5;clear hw5 s6))|(go_at_call 186;((with_reducible refine (size_at _ (aC HB.out K5.out.kp) (by omega) (by have:=HK.out;omega)).mono ?_);rintro e w6 ⟨rfl,rfl⟩)))
 clear c0 c2 c3 c4 c5 d0 d2 d3 d4 d5;go_wp2_with fail
 go_ret
 obtain ⟨ka,kb⟩:=HK.out;obtain ⟨ra,rb⟩:=HR.out;have e1:IntKind.i64.wrap ((aks.len:Int)+1)=((Gn.ay.cons y bbs bks aks).len:Int):=by rw [IntKind.wrap_i64];simp only [Gn.ay.len];omega
 have e2:IntKind.i64.wrap ((aas.length:Int)+aks.size+((bbs.length:Int)+bks.size+1))=((aas.length+(Gn.ay.cons y bbs bks aks).size:Nat):Int):=by rw [IntKind.wrap_i64];simp only [Gn.ay.size];omega
 rw [e1,e2];obtain ⟨hab,haw,hbb,hbw⟩:=HL.out;have hk:=(K5.out.alloc (dK x ap ((Gn.ay.cons y bbs bks aks).len:Int) (some ⟨w4.heap.size,0,none⟩) ((aas.length+(Gn.ay.cons y bbs bks aks).size:Nat):Int)));refine ⟨_,rfl,⟨w6.heap.size,rfl,ap,some ⟨w4.heap.size,0,none⟩,aJ rfl,HX.out.1.kp hk.kp,(hab).kp hk.kp,⟨w4.heap.size,b,akp,bp,bkp,rfl,?_,hk.kp _ _ _ (.inl rfl) HB.out,HX.out.2.kp hk.kp,(hbb).kp hk.kp,(hbw).kp hk.kp,(haw).kp hk.kp⟩⟩,hk.mt,hk.bt⟩;exact (Kp.below (bG _)) _ _ _ (.inr (.inr (.inl rfl))) P5.out
theorem xA (mo:Option Nat)(c m:Int)(a b:Nat)(ta tb:ai)(w:World)(hm:aW w mo c m)(h0:0≤c)(h1:c<2305843009213693952)(h2:0≤m)(h3:m<2305843009213693952)
  (ha:oz w a ta) (hb:oz w b tb) (ka:ta.size<536870912) (kb:tb.size<536870912) :
  Calls Tryz.prog 175 #[aF mo,.pointer (some ⟨a,0,none⟩),.pointer (some ⟨b,0,none⟩)] w (bU mo (c+1) (m+1) (some (fu ta tb)) w):=by
 obtain ⟨x,aas,aks⟩:=ta;obtain ⟨y,bbs,bks⟩:=tb
 cases hv:dH y.key x.key with
 | true =>
  rw [show fu ⟨x,aas,aks⟩ ⟨y,bbs,bks⟩=⟨y,bbs,.cons x aas aks bks⟩ from y9 hv];exact u7 mo c m a b x y aas bbs aks bks w hv hm h0 h1 h2 h3 ha hb ka kb
 | false =>
  rw [show fu ⟨x,aas,aks⟩ ⟨y,bbs,bks⟩=⟨x,aas,.cons y bbs bks aks⟩ from zi hv];exact su mo c m a b x y aas bbs aks bks w hv hm h0 h1 h2 h3 ha hb ka kb
theorem jy (mo:Option Nat)(c m:Int)(p q:Option Addr)(ta tb:Option ai)(w:World)(hm:aW w mo c m)(h0:0≤c)(h1:c<2305843009213693952)(h2:0≤m)(h3:m<2305843009213693952)
  (ha:gQ w p ta) (hb:gQ w q tb) (ka:bF ta<536870912) (kb:bF tb<536870912) :
  Calls Tryz.prog 175 #[aF mo,.pointer p,.pointer q] w (bU mo (c+bZ ta tb) (m+bZ ta tb) (oI ta tb) w):=by
 cases ta with
 | none =>
  obtain rfl:=ha;refine (oZ mo q w).mono fun e w' ⟨he,hw⟩=>⟨q,he,?_,?_,?_⟩
  ·rw [hw];exact hb
  ·rw [hw];simpa [bZ] using hm
  ·rw [hw];exact Bt.refl _ _
 | some ta =>
  obtain ⟨a,rfl,ha⟩:=ha
  cases tb with
  | none =>
   obtain rfl:=hb;refine (sV mo a w).mono fun e w' ⟨he,hw⟩=>⟨_,he,?_,?_,?_⟩
   ·rw [hw];exact ⟨a,rfl,ha⟩
   ·rw [hw];simpa [bZ] using hm
   ·rw [hw];exact Bt.refl _ _
  | some tb =>
   obtain ⟨b,rfl,hb⟩:=hb;exact xA mo c m a b ta tb w hm h0 h1 h2 h3 ha hb ka kb
end Go.Proofs.YtmeodbjlmjpnbaaGreat.U
namespace Go.Proofs.YtmeodbjlmjpnbaaGreat.U
open Go.Sort Go.RowKit Go.Proofs.YtmeodbjlmjpnbaaGreat.U.Gn
theorem mE {P:Program}{w:World}{ops:Array Oper}{o:Oper}{a:Act}{K:Act→World→Prop}{Q:Exit→Act→World→Prop}{E:Prop}(hgd:o.guard=none)(s x:Operand)(t:TypeId)
  (ho:o.op=.call { callee := .builtin .append,args:=#[s,x],argTypes:=#[t,t] }) (v xv v':Value) (w':World) (hs:a.eval s=v) (hx:a.eval x=xv)
  (hrun:(Builtin.append_ #[t,t] o.type #[v,xv]).run P w=.ok v' w') (h:K (a.put o.dst v') w'):if Region.wanted o (yielded ops a.tmps)=true then Oper.wp P o a w K Q else E:=by
 have hw:Region.wanted o (yielded ops a.tmps)=true:=by simp [Region.wanted,hgd]
 rw [if_pos hw];unfold Oper.wp;simp [execOp,ho,resolve,invoke,builtin,hs,hx,hrun,Result.andThen];exact h
theorem DX (n:Nat)
  (ih:∀(x:aN) (bs:List aN) (ks:ay),1+bs.length+ks.size<n → ∀(w0:World) (b:Nat),oz w0 b ⟨x,bs,ks⟩ → ∀(base:Nat),w0.heap.size≤base → ∀(v:Value) (ys:List aN) (w:World),Below w0.heap.size w0 w→base≤w.heap.size→j3 w base v ys →
   ys.length+(1+bs.length+ks.size)<1073741824→Calls Tryz.prog 258 #[.pointer (some ⟨b,0,none⟩),v] w (DC base (ys++(x::(bs++ks.all))) w))
  (x:aN) (bs:List aN) (ks:ay) (hn:1+bs.length+ks.size=n) (w0:World) (b:Nat) (ht:oz w0 b ⟨x,bs,ks⟩) (base:Nat) (hb0:w0.heap.size≤base) (v:Value) (ys:List aN) (w:World) (hW:Below w0.heap.size w0 w) (hbw:base≤w.heap.size) (hv:j3 w base v ys)
  (hl:ys.length+(1+bs.length+ks.size)<1073741824) :
  Calls Tryz.prog 258 #[.pointer (some ⟨b,0,none⟩),v] w (DC base (ys++(x::(bs++ks.all))) w):=by
 obtain ⟨bp,kp,hh,hX,hB,hK⟩:=ht;have hh1:=(hW.block b (lt_of_heap hh)).trans hh;have s6:=six hh1;have c0:=s6.c0;have c2:=s6.c2;have hlt:b<w0.heap.size:=lt_of_heap hh;obtain ⟨v1,w1,hrun,hown1,hb1⟩:=tX w.drew base v ys x (Mine.stay hv ((Below.refl _ _).drew)) (by omega) hbw;have hb1':Below base w w1:=(Below.refl _ _).drew.trans hb1;have hW1:Below w0.heap.size w0 w1:=hW.trans (hb1'.mono hb0);have t6:=six ((hW1.block b hlt).trans hh);have d0:=t6.c0;have d2:=t6.c2;have H:=hdz (af hh (af hB (af hK (af hW (af hlt (af hn hl))))));have H1:=hdz (af hown1 (af hb1' hW1));have HI:=hdz ih;have HB:=hdz hbw;clear hh hX hB hK hW hlt hn hl hh1 s6 t6 hown1 hb1 hb1' hW1 ih hv;go_enter Tryz.func258,Tryz.ntmps258
 go_wp2_with fail
 go_region_held3 (fun w'=>w'.cell? ⟨b,0,none⟩=some (.pointer (some ⟨x.a,0,none⟩))∧w'.cell? ⟨b,1,none⟩=some (.pointer bp)) (go_keep)
  (first|(refine mE rfl _ _ _ rfl _ _ _ _ rfl rfl hrun ?_)|(go_at_call 264;((with_reducible refine (ou w0 bs bp H.out.2.1 base hb0 v1 (ys++[x]) w1 H1.out.2.2 (Nat.le_trans HB.out (by have:=H1.out.2.1.size;exact this)) H1.out.1 (by have:=H.out.2.2.2.2.2.2;simp only [List.length_append,List.length_cons,List.length_nil];omega)).mono ?_);rintro e w2 ⟨v2,rfl,hown2,hb2⟩;have H2:=hdz (af hown2 (H1.out.2.1.trans hb2));have hW2:Below w0.heap.size w0 w2:=H1.out.2.2.trans (hb2.mono hb0);have u6:=six ((hW2.block b H.out.2.2.2.2.1).trans H.out.1);have e0:=u6.c0;have e2:=u6.c2;have e3:=u6.c4;clear hown2 hb2 hW2 u6)))
 clear c0 c2 d0 d2 e0 e2 hrun;go_wp2_with fail
 clear e3;have hB2:Below base w w2:=H2.out.2;have hO2:j3 w2 base v2 ((ys++[x]++bs)++[]):=by rw [List.append_nil];exact H2.out.1
 have HZ:=hdz (show ys++[x]++bs++ks.all=ys++x::(bs++ks.all) by simp);have hzl:(ys++[x]++bs).length=ys.length+1+bs.length:=by simp;omega
 have HL:=hdz hzl;clear hzl H1 H2;generalize ys++[x]++bs=zs at *;have H0:=hdz (af hO2 hB2);clear hO2 hB2;go_loopg [1,5] ks.len (fun k u c wr => ∃(pre:List aN) (rest:ay) (q:Option Addr),c=.pointer q∧ks.all=pre++rest.all∧k=rest.len∧rest.size≤ks.size∧uf w0 rest q∧j3 wr base u (zs++pre)∧Below base w wr)
 case atStart=>exact ⟨[],ks,kp,rfl,rfl,rfl,Nat.le_refl _,H.out.2.2.1,H0.out.1,H0.out.2⟩
 case round =>
  obtain ⟨pre,rest,q,rfl,hx,hk,hsz,hr,hown,hbe⟩:=hrel;have hbw2:base≤wr.heap.size:=Nat.le_trans HB.out hbe.size;have hW2:Below w0.heap.size w0 wr:=H.out.2.2.2.1.trans (hbe.mono hb0)
  cases rest with
  | nil =>
   obtain rfl:=hr;have A:=hdz (af hx (af hown hbe));clear hx hown hbe hk hsz hW2;go_wp2_with fail
   go_ret
   obtain ⟨hx,hown,hbe⟩:=A.out;simp only [Gn.ay.all,List.append_nil]at hx;exact ⟨_,rfl,by rw [←HZ.out,hx];exact hown,hbe⟩
  | cons y cs cks rest =>
   obtain ⟨c,bk,q',bp',kp',rfl,hc,hbk,hx1,h1,h2,h3⟩:=hr;have hc1:=(hW2.block c (lt_of_heap hc)).trans hc;have c0:wr.cell? ⟨c,0,none⟩=some (.pointer (some ⟨bk,0,none⟩)):=by simp [World.cell?,hc1]
   have hlen:(zs++pre).length+(1+cs.length+cks.size)<1073741824∧1+cs.length+cks.size<n∧rest.size≤ks.size:=by
    have g1:=congrArg List.length hx;have g2:=H.out.2.2.2.2.2;have g3:=HL.out;simp only [Gn.ay.all,Gn.ay.size,List.length_append,List.length_cons,Gn.ay.aD]at g1 hsz ⊢;omega
   have HC:=hdz (HI.out y cs cks hlen.2.1 w0 bk ⟨bp',kp',hbk,hx1,h1,h2⟩ base hb0 _ (zs++pre) wr hW2 hbw2 hown hlen.1);have A:=hdz (af hx (af hbe (af hc (af h3 (af hk hlen.2.2)))));clear hx hk hsz hown hbe hc hbk hx1 h1 h2 h3 hlen hc1 hbw2 hW2;go_wp2_with fail
   ((with_reducible refine HC.out.mono ?_);rintro e w3 ⟨u',rfl,hown3,hb3⟩);obtain ⟨hx,hbe,hc,h3,hk,hsz⟩:=A.out;have hW3:Below w0.heap.size w0 w3:=H.out.2.2.2.1.trans ((hbe.trans hb3).mono hb0);have hc3:=(hW3.block c (lt_of_heap hc)).trans hc;have c1:w3.cell? ⟨c,1,none⟩=some (.pointer q'):=by simp [World.cell?,hc3]
   have A2:=hdz (af hx (af hown3 (af (hbe.trans hb3) (af h3 (af hk hsz)))));clear hx hbe hc h3 hk hsz hown3 hb3 hW3 hc3 A HC c0;go_wp2_with fail
   obtain ⟨hx,hown3,hbe,h3,hk,hsz⟩:=A2.out;go_roundg rest.len
   case measure=>rw [hk];simp [Gn.ay.len]
   case rel=>exact ⟨pre++(y::(cs++cks.all)),rest,q',rfl,by rw [hx];simp [Gn.ay.all],rfl,hsz,h3,by rw [←List.append_assoc];exact hown3,hbe⟩
theorem nO (n:Nat):∀(x:aN) (bs:List aN) (ks:ay),1+bs.length+ks.size=n → ∀(w0:World) (b:Nat),oz w0 b ⟨x,bs,ks⟩ → ∀(base:Nat),w0.heap.size≤base → ∀(v:Value) (ys:List aN) (w:World),Below w0.heap.size w0 w→base≤w.heap.size→j3 w base v ys →
   ys.length+(1+bs.length+ks.size)<1073741824→Calls Tryz.prog 258 #[.pointer (some ⟨b,0,none⟩),v] w (DC base (ys++(x::(bs++ks.all))) w):=by
 induction n using Nat.strongRecOn with
 | ind n ih =>
  intro x bs ks hn w0 b ht base hb0 v ys w hW hbw hv hl;exact DX n (fun x' bs' ks' hlt=>ih _ hlt x' bs' ks' rfl) x bs ks hn w0 b ht base hb0 v ys w hW hbw hv hl
theorem Em (v:Value)(w:World):Calls Tryz.prog 258 #[.pointer none,v] w fun e w'=>e=.returned v∧w'=w:=by
 go_enter Tryz.func258,Tryz.ntmps258
 go_wp2_with fail
 go_ret
 exact ⟨rfl,rfl⟩
theorem qp (p:Option Addr)(t:Option ai)(w:World)(h:gQ w p t)(h1:bF t<1073741824):Calls Tryz.prog 248 #[.pointer p] w (DC w.heap.size (Dl t) w):=by
 cases t with
 | none =>
  obtain rfl:=h;go_enter Tryz.func248,Tryz.ntmps248
  go_wp2_with fail
  ((with_reducible refine (Em _ _).mono ?_);rintro e w1 ⟨rfl,rfl⟩);go_wp2_with fail
  go_ret
  exact ⟨_,rfl,Mine.none _ _ _,Below.refl _ _⟩
 | some t =>
  obtain ⟨b,rfl,ht⟩:=h;obtain ⟨x,bs,ks⟩:=t;have H:=hdz (nO _ x bs ks rfl w b ht w.heap.size (Nat.le_refl _) (.slice none 0 0) [] w (Below.refl _ _) (Nat.le_refl _) (Mine.none _ _ _) (by simpa [bF,Gn.ai.size] using h1));clear ht h1;go_enter Tryz.func248,Tryz.ntmps248
  go_wp2_with fail
  ((with_reducible refine H.out.mono ?_);rintro e w1 ⟨v,rfl,hown,hb⟩);have A:=hdz (af hown hb);clear hown hb H;go_wp2_with fail
  go_ret
  exact ⟨_,rfl,A.out.1,A.out.2⟩
def yZ:Option ai→List aN
 | none=>[]
 | some t=>t.bs
theorem sI (p:Option Addr)(t:Option ai)(w:World)(h:gQ w p t)(h1:bF t<1073741824):Calls Tryz.prog 344 #[.pointer p] w (DC w.heap.size (yZ t) w):=by
 cases t with
 | none =>
  obtain rfl:=h;go_enter Tryz.func344,Tryz.ntmps344
  go_wp2_with fail
  go_ret
  exact ⟨_,rfl,Mine.none _ _ _,Below.refl _ _⟩
 | some t =>
  obtain ⟨b,rfl,bp,kp,hb, -,hB, -⟩:=h;have c2:=(six hb).c2;have H:=hdz (ou w t.bs bp hB w.heap.size (Nat.le_refl _) (.slice none 0 0) [] w (Below.refl _ _) (Nat.le_refl _) (Mine.none _ _ _) (by simp only [bF,Gn.ai.size]at h1;simp only [List.length_nil];omega));clear hb hB h1;go_enter Tryz.func344,Tryz.ntmps344
  go_wp2_with fail
  ((with_reducible refine H.out.mono ?_);rintro e w1 ⟨v,rfl,hown,hb⟩);have A:=hdz (af hown hb);clear hown hb H;go_wp2_with fail
  go_ret
  exact ⟨_,rfl,A.out.1,A.out.2⟩
end Go.Proofs.YtmeodbjlmjpnbaaGreat.U
namespace Go.Proofs.YtmeodbjlmjpnbaaGreat.U
open Go.Sort Go.RowKit Go.Proofs.YtmeodbjlmjpnbaaGreat.U.Gn
def BN (p:Option Addr):Value := .pointer p
def iG (W:World):ay→List (Option Addr)→Prop
 | .nil,ps=>ps=[]
 | .cons x bs ks r,ps => ∃b ps',ps=some ⟨b,0,none⟩::ps'∧oz W b ⟨x,bs,ks⟩∧iG W r ps'
theorem iG.length {W:World}:∀{ks:ay} {ps:List (Option Addr)},iG W ks ps→ps.length=ks.len
 | .nil,_,h=>by rw [h];rfl
 | .cons _ _ _ _,_,⟨_,_,e,_,h⟩=>by rw [e,List.length_cons,h.length];rfl
abbrev xM (w:World)(base:Nat)(v:Value)(ps:List (Option Addr)):Prop:=Mine BN 297 w base v ps
theorem yQ:(Tryz.prog.info? 297).map (fun i=>(i.zero,i.size,i.bytes))=some (some (.pointer none),1,8):=by kernel_rfl
theorem sM (w:World)(base:Nat)(v:Value)(ps:List (Option Addr))(p:Option Addr)(hown:xM w base v ps)(hlen:ps.length<1073741824)(hb:base≤w.heap.size) :
  ∃v' w',(Builtin.append_ #[390, 390] 390 #[v,.slice (some ⟨w.heap.size,0,none⟩) 1 1]).run Tryz.prog (w.alloc (.cells #[.pointer p] 297))=.ok v' w'∧xM w' base v' (ps++[p]) ∧
   (w.alloc (.cells #[.pointer p] 297)).grownBy w' v.ownBlock∧Below base w w':=by
 obtain ⟨i0,hi,hz0,hz1,hz2⟩:=info_parts yQ;have hown':(w.alloc (.cells #[.pointer p] 297)).ownsRow base 297 1 v ps.length (ps.map BN):=World.ownsRow.alloc hown _
 obtain ⟨g,c,w',h1,h2,h3, -, -⟩:=run_append_lies (P:=Tryz.prog) (w:=w.alloc (.cells #[.pointer p] 297)) 390 390 base 297 i0 _ 1 8 Tryz.underlying390 hi hz0 hz1 hz2 rfl (by omega)
  _ ps.length (ps.map BN) hown' ⟨w.heap.size,0,none⟩ 1 1 [.pointer p] rfl
  (fun j u hu=>by
   rw [jY];have e1:(w.alloc (.cells #[.pointer p] 297)).heap[w.heap.size]?=some (.cells #[.pointer p] 297 (0,0)):=aJ rfl;unfold World.cell?;rw [e1];simpa using hu) (by intro u hu;simp at hu;subst hu;rfl) (by omega) (by unfold maxLen;omega) (by omega) (by simp;omega) _ rfl
 refine ⟨_,w',h1,?_,h3,below_grown ((Below.refl _ _).alloc hb _) h3 (by simp;omega) (fun g hg=>hown.block g hg)⟩;unfold xM Mine;rw [List.length_append,List.map_append];exact h2
def En (w0:World)(ks:ay)(base:Nat)(w:World)(e:Ending)(w':World):Prop:=∃v ps,e=.returned v∧iG w0 ks ps∧xM w' base v ps∧Below base w w'
theorem iG.put {W:World}:∀{pre:List (Option Addr)} {ks rest:ay} {x:aN} {bs:List aN} {b:Nat} {aks:ay},(∀qs,iG W (.cons x bs ks rest) qs→iG W aks (pre++qs))→oz W b ⟨x,bs,ks⟩ → ∀qs,iG W rest qs→iG W aks ((pre++[some ⟨b,0,none⟩])++qs) :=
 fun h hn qs hq=>by rw [List.append_assoc];exact h _ ⟨_,qs,rfl,hn,hq⟩
theorem pV (w:World)(ks:ay)(p:Option Addr)(hp:uf w ks p)(hl:ks.size<1073741824) :
  Calls Tryz.prog 347 #[.pointer p,.slice none 0 0] w (En w ks w.heap.size w):=by
 have hlen:=ks.fE;go_enter Tryz.func347,Tryz.ntmps347
 go_wp2_with fail
 have H:=hdz (af hp (af hl hlen));clear hp hl hlen;go_loopg [0,1] ks.len (fun k c u wr => ∃(pre:List (Option Addr)) (rest:ay) (q:Option Addr),c=.pointer q∧pre.length+rest.len=ks.len∧k=rest.len∧uf w rest q∧(∀qs,iG w rest qs→iG w ks (pre++qs))∧xM wr w.heap.size u pre∧Below w.heap.size w wr)
 case atStart=>exact ⟨[],ks,p,rfl,by simp,rfl,H.out.1,fun qs h=>h,Mine.none _ _ _,Below.refl _ _⟩
 case round =>
  obtain ⟨pre,rest,q,rfl,hx,hk,hr,hq,hown,hbe⟩:=hrel
  cases rest with
  | nil =>
   obtain rfl:=hr;have A:=hdz (af hq (af hown hbe));clear hx hown hbe hk hq;go_wp2_with fail
   go_ret
   obtain ⟨hq,hown,hbe⟩:=A.out;exact ⟨_,pre,rfl,by simpa using hq [] rfl,hown,hbe⟩
  | cons y cs cks rest =>
   obtain ⟨c,bk,q',bp',kp',rfl,hc,hbk,hx1,h1,h2,h3⟩:=hr;have hc1:=(hbe.block c (lt_of_heap hc)).trans hc;have c0:wr.cell? ⟨c,0,none⟩=some (.pointer (some ⟨bk,0,none⟩)):=by simp [World.cell?,hc1]
   obtain ⟨u',w2,hrun,hown2, -,hb2⟩:=sM wr w.heap.size _ pre (some ⟨bk,0,none⟩) hown (by have:=H.out.2;simp only [Gn.ay.len]at hx;omega) hbe.size;have hc2:=((hbe.trans hb2).block c (lt_of_heap hc)).trans hc;have c1:w2.cell? ⟨c,1,none⟩=some (.pointer q'):=by simp [World.cell?,hc2]
   have A:=hdz (af hx (af hown2 (af (hbe.trans hb2) (af h3 (af hk (iG.put hq ⟨bp',kp',hbk,hx1,h1,h2⟩))))));clear hx hown hbe hown2 hb2 hc hc1 hc2 hbk hx1 h1 h2 h3 hk hq;go_wp2_with (at_builtin;refine wpList_append_run rfl _ _ _ rfl _ _ _ _ rfl rfl hrun ?_)
   obtain ⟨hx,hown2,hbe,h3,hk,hq⟩:=A.out;go_roundg rest.len
   case measure=>rw [hk];simp [Gn.ay.len]
   case rel=>exact ⟨pre++[some ⟨bk,0,none⟩],rest,q',rfl,by simp only [Gn.ay.len]at hx;simp;omega,rfl,h3,hq,hown2,hbe⟩
def Eg:Option ai→ay
 | none=>.nil
 | some t=>t.ks
theorem uI (p:Option Addr)(t:Option ai)(w:World)(h:gQ w p t)(h1:bF t<1073741824):Calls Tryz.prog 343 #[.pointer p] w (En w (Eg t) w.heap.size w):=by
 cases t with
 | none =>
  obtain rfl:=h;go_enter Tryz.func343,Tryz.ntmps343
  go_wp2_with fail
  go_ret
  exact ⟨_,[],rfl,rfl,Mine.none _ _ _,Below.refl _ _⟩
 | some t =>
  obtain ⟨b,rfl,bp,kp,hb, -, -,hK⟩:=h;have c4:=(six hb).c4;have H:=hdz (pV w t.ks kp hK (by simp only [bF,Gn.ai.size]at h1;omega));clear hb hK h1;go_enter Tryz.func343,Tryz.ntmps343
  go_wp2_with fail
  ((with_reducible refine H.out.mono ?_);rintro e w1 ⟨v,ps,rfl,hk,hown,hb⟩);have A:=hdz (af hk (af hown hb));clear hk hown hb H;go_wp2_with fail
  go_ret
  exact ⟨_,ps,rfl,A.out.1,A.out.2.1,A.out.2.2⟩
end Go.Proofs.YtmeodbjlmjpnbaaGreat.U
namespace Go.Proofs.YtmeodbjlmjpnbaaGreat.U
open Go.Sort Go.RowKit Go.Proofs.YtmeodbjlmjpnbaaGreat.U.Gn
theorem dP {w:World}{a:Addr}{v:Value}(h:w.cell? a=some v)(o:Obj):(w.alloc o).cell? a=some v:=by
 have hl:a.block<w.heap.size:=by
  unfold World.cell? at h
  cases hh:w.heap[a.block]? with
  | none=>rw [hh]at h;cases h
  | some o=>exact lt_of_heap hh
 exact (((Below.refl w.heap.size w).alloc (Nat.le_refl _) o).cell hl).trans h
theorem lX {W W':World}{b:Nat}{x:aN}{bp kp:Option Addr}{r o:Int}(h:W.heap[b]?=some (dK x bp r kp o))(hk:Kp W W'):W'.heap[b]?=some (dK x bp r kp o):=hk b _ _ (.inl rfl) h
theorem vo (mo:Option Nat)(c m:Int)(y:aN)(w:World)(hy:iI w y)(hm:aW w mo c m)(h2:0≤m)(h3:m<1152921504606846976) :
  Calls Tryz.prog 164 #[aF mo,hv y,.pointer none,.pointer none] w (bU mo c (m+1) (some (bY y)) w):=by
 have HY:=hdz hy;have HM:=hdz hm;clear hm hy;go_enter Tryz.func164,Tryz.ntmps164
 go_wp2_with fail
 ((with_reducible refine (oZ mo none _).mono ?_);rintro e w1 ⟨rfl,rfl⟩);go_wp2_with fail
 ((with_reducible refine (j5 mo c m y _ HY.out HM.out h2 (by omega)).mono ?_);rintro e w1 ⟨p,rfl,ht,hm1,hb1⟩);have H:=hdz (af ht (af hm1 hb1));clear ht hm1 hb1;go_wp2_with fail
 go_ret
 exact ⟨_,rfl,H.out.1,H.out.2.1,H.out.2.2⟩
theorem vz (mo:Option Nat)(c m:Int)(y:aN)(p q:Option Addr)(ta tb:Option ai)(x:aN)(bs:List aN)(ks:ay)(ht:oI ta tb=some ⟨x,bs,ks⟩)(w:World)(hy:iI w y)(hm:aW w mo c m)(h0:0≤c)(h1:c<1152921504606846976)(h2:0≤m)(h3:m<1152921504606846976)
  (ha:gQ w p ta) (hb:gQ w q tb) (ka:bF ta<268435456) (kb:bF tb<268435456) (hv:dH x.key y.key=true) :
  Calls Tryz.prog 164 #[aF mo,.pointer (some ⟨y.a,0,none⟩),.pointer p,.pointer q] w (bU mo (c+bZ ta tb+1) (m+bZ ta tb+1) (some ⟨x,y::bs,ks⟩) w):=by
 have hsz:1+bs.length+ks.size<536870912:=by have:=pI ta tb;rw [ht]at this;simp only [bF,Gn.ai.size]at this ka kb;omega
 have hN:(bZ ta tb:Int)≤1∧0≤(bZ ta tb:Int):=by cases ta<;>cases tb<;>simp [bZ]
 have HLink:=hdz (fun W (h:aW W mo c m) ha hb=>jy mo c m p q ta tb W h h0 (by omega) h2 (by omega) ha hb (by omega) (by omega));generalize (bZ ta tb:Int)=n at *;rw [ht]at HLink;have HM:=hdz hm;have HT:=hdz (af ha hb);have HV:=hdz hv;have HS:=hdz hsz;have HY:=hdz hy;clear hm ha hb hv hsz hy ht ka kb;go_enter Tryz.func164,Tryz.ntmps164
 go_wp2_with fail
 ((with_reducible refine (HLink.out w HM.out HT.out.1 HT.out.2).mono ?_);rintro e w1 ⟨pt,rfl,⟨t,rfl,tbp,tkp,hh,hhx,hhb,hhk⟩,hm1,hb1⟩);have K1:=hdz ((nY.refl HM.out).turn hm1 hb1);have HH:=hdz hh;have HL:=hdz (af hhb (af hhk (af hhx (HY.out.kp (hb1.oG HM.out gL)))));have c0:=(aC hh (bO.refl w1)).c0;clear hh hhx hhb hhk HY hm1 hb1 HM HT HLink;go_wp2_with fail
 go_region
 have K2:=hdz K1.out.drew;have kk:=Kp.below ((Below.refl w1.heap.size w1).drew);have HH2:=hdz (lX HH.out kk);have HL2:=hdz (af (HL.out.1.kp kk) (af (HL.out.2.1.kp kk) (af (HL.out.2.2.1.kp kk) (HL.out.2.2.2.kp kk))));clear c0 kk HH HL K1;generalize w1.drew=w2 at *;have c0:=(aC HH2.out (bO.refl w2)).c0;go_wp2_with fail
 ((with_reducible refine (fV x w2 HL2.out.2.2.1).mono ?_);rintro e w3 ⟨rfl,hb3⟩);have K3:=hdz (af (K2.out.stay hb3) (Kp.below hb3));clear hb3 c0;go_wp2_with fail
 ((with_reducible refine (fV y w3 (HL2.out.2.2.2.kp K3.out.2)).mono ?_);rintro e w4 ⟨rfl,hb4⟩);have K4:=hdz (af (K3.out.1.stay hb4) (K3.out.2.trans (Kp.below hb4)));clear hb4 K2 K3;go_wp2_with fail
 ((with_reducible refine (lM mo (c+n) (m+n) x.key y.key w4 K4.out.1.mt (by omega) (by omega)).mono ?_);rintro e w5 ⟨rfl,Im,hb5⟩);rw [HV.out];have K5:=hdz (af (K4.out.1.turn Im hb5) (K4.out.2.trans (hb5.oG K4.out.1.mt gL)));have c0:=(aC HH2.out K5.out.2).c0;clear Im hb5 K4;go_wp2_with fail
 ((with_reducible refine (mZ mo (c+n+1) (m+n) w5 K5.out.1.mt (by omega) (by omega)).mono ?_);rintro e w6 ⟨rfl,Iy,hb6⟩);have K6:=hdz (af (K5.out.1.turn Iy hb6) (K5.out.2.trans (hb6.oG K5.out.1.mt gL)));clear Iy hb6 K5 c0;have s6:=aC HH2.out K6.out.2;have c2:=s6.c2;have c3:=s6.c3;have c4:=s6.c4;have c5:=s6.c5;clear s6;go_wp2_with fail
 go_region_held3 (fun w'=>w'.cell? ⟨t,1,none⟩=some (.pointer tbp)∧w'.cell? ⟨t,2,none⟩=some (.int .i64 (ks.len:Int))∧w'.cell? ⟨t,3,none⟩=some (.pointer tkp)∧w'.cell? ⟨t,4,none⟩=some (.int .i64 (bs.length+ks.size:Nat))) (go_keep)
  (first|(go_at_call 177;((with_reducible refine (oV y tbp _).mono ?_);rintro e w8 ⟨nb,rfl,hn8,IB⟩;have T8:=hdz (K6.out.1.drew.stay IB);have P8:=hdz hn8;have K8:=hdz (K6.out.2.trans (bO.trans (Kp.below (Below.refl _ w6).drew) (Kp.below IB)));have s6:=aC HH2.out K8.out;have f2:=s6.c2;have f3:=s6.c3;have f4:=s6.c4;have f5:=s6.c5;clear IB hn8 s6)))
 clear c2 c3 c4 c5 f2 f3 f4 f5;go_wp2_with fail
 go_ret
 have hs:=HS.out;have e2:IntKind.i64.wrap (((bs.length:Int)+ks.size)+1)=((y::bs).length+ks.size:Nat):=by rw [IntKind.wrap_i64];simp only [List.length_cons];omega
 rw [e2];have hk:=(T8.out.alloc (dK x (some ⟨nb,0,none⟩) (ks.len:Int) tkp ((y::bs).length+ks.size:Nat)));have hk8:=K8.out.trans (Kp.below ((Below.refl _ w8).alloc (Nat.le_refl _) (dK x (some ⟨nb,0,none⟩) (ks.len:Int) tkp ((y::bs).length+ks.size:Nat))));refine ⟨_,rfl,⟨w8.heap.size,rfl,some ⟨nb,0,none⟩,tkp,aJ rfl,HL2.out.2.2.1.kp hk8,⟨nb,tbp,rfl,?_,HL2.out.2.2.2.kp hk8,HL2.out.1.kp hk8⟩,HL2.out.2.1.kp hk8⟩,hk.mt,hk.bt⟩;exact (Kp.below ((Below.refl _ w8).alloc (Nat.le_refl _) _)) _ _ _ (.inr (.inl rfl)) P8.out
theorem sD (mo:Option Nat)(c m:Int)(y:aN)(p q:Option Addr)(ta tb:Option ai)(x:aN)(bs:List aN)(ks:ay)(ht:oI ta tb=some ⟨x,bs,ks⟩)(w:World)(hy:iI w y)(hm:aW w mo c m)(h0:0≤c)(h1:c<1152921504606846976)(h2:0≤m)(h3:m<1152921504606846976)
  (ha:gQ w p ta) (hb:gQ w q tb) (ka:bF ta<268435456) (kb:bF tb<268435456) (hv:dH x.key y.key=false) :
  Calls Tryz.prog 164 #[aF mo,.pointer (some ⟨y.a,0,none⟩),.pointer p,.pointer q] w (bU mo (c+bZ ta tb+1) (m+bZ ta tb+1) (some ⟨y,x::bs,ks⟩) w):=by
 have hsz:1+bs.length+ks.size<536870912:=by have:=pI ta tb;rw [ht]at this;simp only [bF,Gn.ai.size]at this ka kb;omega
 have hN:(bZ ta tb:Int)≤1∧0≤(bZ ta tb:Int):=by cases ta<;>cases tb<;>simp [bZ]
 have HLink:=hdz (fun W (h:aW W mo c m) ha hb=>jy mo c m p q ta tb W h h0 (by omega) h2 (by omega) ha hb (by omega) (by omega));generalize (bZ ta tb:Int)=n at *;rw [ht]at HLink;have HM:=hdz hm;have HT:=hdz (af ha hb);have HV:=hdz hv;have HS:=hdz hsz;have HY:=hdz hy;clear hm ha hb hv hsz hy ht ka kb;go_enter Tryz.func164,Tryz.ntmps164
 go_wp2_with fail
 ((with_reducible refine (HLink.out w HM.out HT.out.1 HT.out.2).mono ?_);rintro e w1 ⟨pt,rfl,⟨t,rfl,tbp,tkp,hh,hhx,hhb,hhk⟩,hm1,hb1⟩);have K1:=hdz ((nY.refl HM.out).turn hm1 hb1);have HH:=hdz hh;have HL:=hdz (af hhb (af hhk (af hhx (HY.out.kp (hb1.oG HM.out gL)))));have c0:=(aC hh (bO.refl w1)).c0;clear hh hhx hhb hhk HY hm1 hb1 HM HT HLink;go_wp2_with fail
 go_region
 have K2:=hdz K1.out.drew;have kk:=Kp.below ((Below.refl w1.heap.size w1).drew);have HH2:=hdz (lX HH.out kk);have HL2:=hdz (af (HL.out.1.kp kk) (af (HL.out.2.1.kp kk) (af (HL.out.2.2.1.kp kk) (HL.out.2.2.2.kp kk))));clear c0 kk HH HL K1;generalize w1.drew=w2 at *;have c0:=(aC HH2.out (bO.refl w2)).c0;go_wp2_with fail
 ((with_reducible refine (fV x w2 HL2.out.2.2.1).mono ?_);rintro e w3 ⟨rfl,hb3⟩);have K3:=hdz (af (K2.out.stay hb3) (Kp.below hb3));clear hb3 c0;go_wp2_with fail
 ((with_reducible refine (fV y w3 (HL2.out.2.2.2.kp K3.out.2)).mono ?_);rintro e w4 ⟨rfl,hb4⟩);have K4:=hdz (af (K3.out.1.stay hb4) (K3.out.2.trans (Kp.below hb4)));clear hb4 K2 K3;go_wp2_with fail
 ((with_reducible refine (lM mo (c+n) (m+n) x.key y.key w4 K4.out.1.mt (by omega) (by omega)).mono ?_);rintro e w5 ⟨rfl,Im,hb5⟩);rw [HV.out];have K5:=hdz (af (K4.out.1.turn Im hb5) (K4.out.2.trans (hb5.oG K4.out.1.mt gL)));have c0:=(aC HH2.out K5.out.2).c0;clear Im hb5 K4;go_wp2_with fail
 ((with_reducible refine (mZ mo (c+n+1) (m+n) w5 K5.out.1.mt (by omega) (by omega)).mono ?_);rintro e w6 ⟨rfl,Iy,hb6⟩);have K6:=hdz (af (K5.out.1.turn Iy hb6) (K5.out.2.trans (hb6.oG K5.out.1.mt gL)));clear Iy hb6 K5 c0;have s6:=aC HH2.out K6.out.2;have c2:=s6.c2;have c3:=s6.c3;have c4:=s6.c4;have c5:=s6.c5;clear s6;go_wp2_with fail
 go_region_held3 (fun w'=>w'.cell? ⟨t,1,none⟩=some (.pointer tbp)∧w'.cell? ⟨t,2,none⟩=some (.int .i64 (ks.len:Int))∧w'.cell? ⟨t,3,none⟩=some (.pointer tkp)∧w'.cell? ⟨t,4,none⟩=some (.int .i64 (bs.length+ks.size:Nat))) (go_keep)
  (first|(go_at_call 177;((with_reducible refine (oV x tbp _).mono ?_);rintro e w8 ⟨nb,rfl,hn8,IB⟩;have T8:=hdz (K6.out.1.drew.stay IB);have P8:=hdz hn8;have K8:=hdz (K6.out.2.trans (bO.trans (Kp.below (Below.refl _ w6).drew) (Kp.below IB)));have s6:=aC HH2.out K8.out;have f2:=s6.c2;have f3:=s6.c3;have f4:=s6.c4;have f5:=s6.c5;clear IB hn8 s6)))
 clear c2 c3 c4 c5 f2 f3 f4 f5;go_wp2_with fail
 go_ret
 have hs:=HS.out;have e2:IntKind.i64.wrap (((bs.length:Int)+ks.size)+1)=((x::bs).length+ks.size:Nat):=by rw [IntKind.wrap_i64];simp only [List.length_cons];omega
 rw [e2];have hk:=(T8.out.alloc (dK y (some ⟨nb,0,none⟩) (ks.len:Int) tkp ((x::bs).length+ks.size:Nat)));have hk8:=K8.out.trans (Kp.below ((Below.refl _ w8).alloc (Nat.le_refl _) (dK y (some ⟨nb,0,none⟩) (ks.len:Int) tkp ((x::bs).length+ks.size:Nat))));refine ⟨_,rfl,⟨w8.heap.size,rfl,some ⟨nb,0,none⟩,tkp,aJ rfl,HL2.out.2.2.2.kp hk8,⟨nb,tbp,rfl,?_,HL2.out.2.2.1.kp hk8,HL2.out.1.kp hk8⟩,HL2.out.2.1.kp hk8⟩,hk.mt,hk.bt⟩;exact (Kp.below ((Below.refl _ w8).alloc (Nat.le_refl _) _)) _ _ _ (.inr (.inl rfl)) P8.out
end Go.Proofs.YtmeodbjlmjpnbaaGreat.U
namespace Go.Proofs.YtmeodbjlmjpnbaaGreat.U
open Go.Sort Go.RowKit Go.Proofs.YtmeodbjlmjpnbaaGreat.U.Gn
def vE:Option ai→Option ai→Nat
 | none,none=>0
 | _,_=>1
theorem wW (mo:Option Nat)(c m:Int)(y:aN)(p q:Option Addr)(ta tb:Option ai)(w:World)(hy:iI w y)(hm:aW w mo c m)(h0:0≤c)(h1:c<1152921504606846976)(h2:0≤m)(h3:m<1152921504606846976)
  (ha:gQ w p ta) (hb:gQ w q tb) (ka:bF ta<268435456) (kb:bF tb<268435456) :
  Calls Tryz.prog 164 #[aF mo,hv y,.pointer p,.pointer q] w (bU mo (c+bZ ta tb+vE ta tb) (m+bZ ta tb+1) (AZ y ta tb) w):=by
 cases hl:oI ta tb with
 | none =>
  have hn:ta=none∧tb=none:=by cases ta<;>cases tb<;>simp_all [oI]
  obtain ⟨rfl,rfl⟩:=hn;obtain rfl:=ha;obtain rfl:=hb;have:=vo mo c m y w hy hm h2 h3;simpa [bZ,vE,AZ,oI] using this
 | some t =>
  have hn:(vE ta tb:Int)=1:=by cases ta<;>cases tb<;>simp_all [oI,vE]
  rw [hn];obtain ⟨x,bs,ks⟩:=t;unfold AZ;rw [hl];show Calls Tryz.prog 164 _ w (bU mo _ _ (some (pE y ⟨x,bs,ks⟩)) w)
  cases hv:dH x.key y.key with
  | true =>
   rw [show pE y ⟨x,bs,ks⟩=⟨x,y::bs,ks⟩ from zK hv];exact vz mo c m y p q ta tb x bs ks hl w hy hm h0 h1 h2 h3 ha hb ka kb hv
  | false =>
   rw [show pE y ⟨x,bs,ks⟩=⟨y,x::bs,ks⟩ from yR hv];exact sD mo c m y p q ta tb x bs ks hl w hy hm h0 h1 h2 h3 ha hb ka kb hv
end Go.Proofs.YtmeodbjlmjpnbaaGreat.U
