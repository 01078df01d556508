/- Plain facts, of no program: leftist heaps as data: rank, size, elements, text; two melded, one put in, those of a row, the least one taken out: the elements, heap order, how short right ways are, how many comparisons. No conditions. -/
import Derived.Test.YtmeodbjlmjpnbaaGreatPa
import Derived.Deep.RegionHeld3
import Derived.Deep.DrawnRows
import Derived.Deep.LoopGhost
import Derived.Handy
set_option maxRecDepth 100000
set_option maxHeartbeats 4000000
namespace Go.Proofs.YtmeodbjlmjpnbaaGreat.Le
open Go.Sort Go.RowKit
inductive Lh
 | nil
 | node (x:Int×Int) (l r:Lh)
def Lh.rank:Lh→Nat
 | .nil=>0
 | .node _ _ r=>r.rank+1
def Lh.size:Lh→Nat
 | .nil=>0
 | .node _ l r=>l.size+1+r.size
def Lh.all:Lh→List (Int×Int)
 | .nil=>[]
 | .node x l r=>x::(l.all++r.all)
def Lh.show:Lh→List UInt8
 | .nil=>[46]
 | .node x l r=>40::(textOf x.1 x.2++32::(l.show++32::(r.show++[41])))
def Lh.min:Lh→(Int×Int)×Bool
 | .nil=>((0,0),false)
 | .node x _ _=>(x,true)
def DU (x:Int×Int)(l r:Lh):Lh:=if l.rank<r.rank then .node x r l else .node x l r
def bI (a b:Lh):Lh:=match a,b with
 | .nil,o=>o
 | .node x l r,.nil=>.node x l r
 | .node x l r,.node y l' r'=>if dH y x=true then DU y l' (bI r' (.node x l r)) else DU x l (bI r (.node y l' r'))
termination_by a.size+b.size
decreasing_by all_goals (simp only [Lh.size];omega)
def aQ (a b:Lh):Nat:=match a,b with
 | .nil,_=>0
 | .node _ _ _,.nil=>0
 | .node x l r,.node y l' r'=>if dH y x=true then 1+aQ r' (.node x l r) else 1+aQ r (.node y l' r')
termination_by a.size+b.size
decreasing_by all_goals (simp only [Lh.size];omega)
def Lh.one (x:Int×Int):Lh := .node x .nil .nil
def Lh.insert (h:Lh)(x:Int×Int):Lh:=bI (.one x) h
def Lh.pop:Lh→Lh
 | .nil=>.nil
 | .node _ l r=>bI l r
def Lh.oK:Lh→Nat
 | .nil=>0
 | .node _ l r=>aQ l r
def fG (l:List (Int×Int)):Lh:=l.foldl Lh.insert .nil
def dN:Lh→List (Int×Int)→Nat
 | _,[]=>0
 | h,x::r=>aQ (.one x) h+dN (h.insert x) r
theorem jA (o:Lh):bI .nil o=o:=by unfold bI;rfl
theorem fT (h:Lh):bI h .nil=h:=by cases h<;>(unfold bI;rfl)
theorem fw {x y:Int×Int}{l r l' r':Lh}(h:dH y x=true):bI (.node x l r) (.node y l' r')=DU y l' (bI r' (.node x l r)):=by
 rw [bI];exact if_pos h
theorem iY {x y:Int×Int}{l r l' r':Lh}(h:dH y x=false):bI (.node x l r) (.node y l' r')=DU x l (bI r (.node y l' r')):=by
 rw [bI];exact if_neg (by rw [h];simp)
theorem rF (o:Lh):aQ .nil o=0:=by unfold aQ;rfl
theorem vM (h:Lh):aQ h .nil=0:=by cases h<;>(unfold aQ;rfl)
theorem zW {x y:Int×Int}{l r l' r':Lh}(h:dH y x=true):aQ (.node x l r) (.node y l' r')=1+aQ r' (.node x l r):=by
 rw [aQ];exact if_pos h
theorem zX {x y:Int×Int}{l r l' r':Lh}(h:dH y x=false):aQ (.node x l r) (.node y l' r')=1+aQ r (.node y l' r'):=by
 rw [aQ];exact if_neg (by rw [h];simp)
theorem uy {P:Lh→Lh→Prop}(h1:∀o,P .nil o)(h2:∀x l r,P (.node x l r) .nil)
  (h3:∀x l r y l' r',dH y x=true→P r' (.node x l r)→P (.node x l r) (.node y l' r'))
  (h4:∀x l r y l' r',dH y x=false→P r (.node y l' r')→P (.node x l r) (.node y l' r')):∀a b,P a b:=by
 have key:∀(n:Nat) (a b:Lh),a.size+b.size=n→P a b:=by
  intro n;induction n using Nat.strongRecOn with
  | ind n ih =>
   intro a b hn
   cases a with
   | nil=>exact h1 b
   | node x l r =>
    cases b with
    | nil=>exact h2 x l r
    | node y l' r' =>
     cases hv:dH y x with
     | true=>exact h3 x l r y l' r' hv (ih (r'.size+(Lh.node x l r).size) (by simp only [Lh.size]at hn ⊢;omega) _ _ rfl)
     | false=>exact h4 x l r y l' r' hv (ih (r.size+(Lh.node y l' r').size) (by simp only [Lh.size]at hn ⊢;omega) _ _ rfl)
 exact fun a b=>key _ a b rfl
theorem Cr (x:Int×Int)(l r:Lh):(DU x l r).all.Perm (x::(l.all++r.all)):=by
 unfold DU;split
 ·exact (List.perm_append_comm).cons x
 ·exact List.Perm.refl _
theorem Lh.aD:∀h:Lh,h.all.length=h.size
 | .nil=>rfl
 | .node x l r=>by simp only [Lh.all,Lh.size,List.length_cons,List.length_append,l.aD,r.aD];omega
theorem Lh.pW:∀h:Lh,h.rank≤h.size
 | .nil=>Nat.le_refl _
 | .node x l r=>by have:=r.pW;simp only [Lh.rank,Lh.size];omega
theorem bP:∀a b:Lh,(bI a b).all.Perm (a.all++b.all):=by
 refine uy ?_ ?_ ?_ ?_
 ·intro o;rw [jA];simp [Lh.all]
 ·intro x l r;rw [fT];simp [Lh.all]
 ·intro x l r y l' r' hv ih;rw [fw hv];refine (Cr _ _ _).trans ?_;refine ((ih.append_left l'.all).cons y).trans ?_;simp only [Lh.all];refine List.Perm.trans ?_ List.perm_append_comm;simp
 ·intro x l r y l' r' hv ih;rw [iY hv];refine (Cr _ _ _).trans ?_;refine ((ih.append_left l.all).cons x).trans ?_;simp [Lh.all]
theorem d9 (a b:Lh):(bI a b).size=a.size+b.size:=by
 have h:=(bP a b).length_eq;rw [Lh.aD,List.length_append,Lh.aD,Lh.aD]at h;exact h
theorem lV (x:Int×Int):(Lh.one x).all=[x]:=by simp [Lh.one,Lh.all]
theorem iL (x:Int×Int):(Lh.one x).size=1:=rfl
theorem bD (h:Lh)(x:Int×Int):(h.insert x).all.Perm (x::h.all):=by
 refine (bP _ _).trans ?_;rw [lV];rfl
theorem gZ (h:Lh)(x:Int×Int):(h.insert x).size=h.size+1:=by
 unfold Lh.insert;rw [d9,iL];omega
theorem jD:∀(l:List (Int×Int)) (h:Lh),(l.foldl Lh.insert h).all.Perm (h.all++l)
 | [],h=>by simp
 | x::r,h=>by
  refine (jD r (h.insert x)).trans ?_;refine ((bD h x).append_right r).trans ?_;simp only [List.cons_append];exact List.perm_middle.symm
theorem fJ (l:List (Int×Int)):(fG l).all.Perm l:=by have:=jD l .nil;simpa [Lh.all,fG] using this
theorem kW (l:List (Int×Int)):(fG l).size=l.length:=by rw [←Lh.aD];exact (fJ l).length_eq
theorem lI (l:List (Int×Int))(x:Int×Int):fG (l++[x])=(fG l).insert x:=by simp [fG]
theorem kJ:∀(l:List (Int×Int)) (h:Lh) (x:Int×Int),dN h (l++[x])=dN h l+aQ (.one x) (l.foldl Lh.insert h)
 | [],h,x=>by simp [dN]
 | y::l,h,x=>by simp only [List.cons_append,dN,List.foldl_cons];rw [kJ l (h.insert y) x];omega
def Lh.ok:Lh→Prop
 | .nil=>True
 | .node x l r=>(∀e∈l.all++r.all,dH e x=false)∧l.ok∧r.ok
theorem EP {x:Int×Int}{l r:Lh}(h:∀e∈l.all++r.all,dH e x=false)(hl:l.ok)(hr:r.ok):(DU x l r).ok:=by
 unfold DU;split
 ·exact ⟨fun e he=>h e (by simp only [List.mem_append]at he ⊢;exact he.symm),hr,hl⟩
 ·exact ⟨h,hl,hr⟩
theorem gm:∀a b:Lh,a.ok→b.ok→(bI a b).ok:=by
 refine uy (P:=fun a b=>a.ok→b.ok→(bI a b).ok) ?_ ?_ ?_ ?_
 ·intro o _ h;rw [jA];exact h
 ·intro x l r h _;rw [fT];exact h
 ·intro x l r y l' r' hv ih ha hb;rw [fw hv];refine EP (fun e he=>?_) hb.2.1 (ih hb.2.2 ha);rcases List.mem_append.1 he with he|he
  ·exact hb.1 e (List.mem_append.2 (.inl he))
  ·rcases List.mem_append.1 ((bP _ _).subset he) with he|he
   ·exact hb.1 e (List.mem_append.2 (.inr he))
   ·have hyx:dH x y=false:=by rw [iA];rw [ku]at hv;omega
    rcases List.mem_cons.1 he with rfl|he
    ·exact hyx
    ·have:=ha.1 e he;exact qA.ntrans _ _ _ this hyx
 ·intro x l r y l' r' hv ih ha hb;rw [iY hv];refine EP (fun e he=>?_) ha.2.1 (ih ha.2.2 hb);rcases List.mem_append.1 he with he|he
  ·exact ha.1 e (List.mem_append.2 (.inl he))
  ·rcases List.mem_append.1 ((bP _ _).subset he) with he|he
   ·exact ha.1 e (List.mem_append.2 (.inr he))
   ·rcases List.mem_cons.1 he with rfl|he
    ·exact hv
    ·exact qA.ntrans _ _ _ (hb.1 e he) hv
theorem nU (x:Int×Int):(Lh.one x).ok:=⟨fun e he=>by simp [Lh.all]at he,trivial,trivial⟩
theorem jK {x:Int×Int}{l r:Lh}(h:(Lh.node x l r).ok):dw (Lh.node x l r).all=x::dw (bI l r).all:=by
 rw [bX (bP l r)];exact pU h.1
def Lh.zO:Lh→Prop
 | .nil=>True
 | .node _ l r=>r.rank≤l.rank∧l.zO∧r.zO
theorem Cb {x:Int×Int}{l r:Lh}(hl:l.zO)(hr:r.zO):(DU x l r).zO:=by
 unfold DU;split
 ·exact ⟨by omega,hr,hl⟩
 ·exact ⟨by omega,hl,hr⟩
theorem Eu:∀a b:Lh,a.zO→b.zO→(bI a b).zO:=by
 refine uy (P:=fun a b=>a.zO→b.zO→(bI a b).zO) ?_ ?_ ?_ ?_
 ·intro o _ h;rw [jA];exact h
 ·intro x l r h _;rw [fT];exact h
 ·intro x l r y l' r' hv ih ha hb;rw [fw hv];exact Cb hb.2.1 (ih hb.2.2 ha)
 ·intro x l r y l' r' hv ih ha hb;rw [iY hv];exact Cb ha.2.1 (ih ha.2.2 hb)
theorem FI (x:Int×Int):(Lh.one x).zO:=⟨Nat.le_refl _,trivial,trivial⟩
theorem tK:∀a b:Lh,aQ a b≤a.rank+b.rank:=by
 refine uy ?_ ?_ ?_ ?_
 ·intro o;rw [rF];omega
 ·intro x l r;rw [vM];omega
 ·intro x l r y l' r' hv ih;rw [zW hv];simp only [Lh.rank]at ih ⊢;omega
 ·intro x l r y l' r' hv ih;rw [zX hv];simp only [Lh.rank]at ih ⊢;omega
theorem kF (a b:Lh):aQ a b≤a.size+b.size:=by have:=tK a b;have:=a.pW;have:=b.pW;omega
theorem nZ:∀(l:List (Int×Int)) (h:Lh),dN h l≤l.length*(h.size+l.length+1)
 | [],h=>by simp [dN]
 | x::r,h=>by
  have h1:=kF (.one x) h;have h2:=nZ r (h.insert x);rw [gZ]at h2;rw [iL]at h1;simp only [dN,List.length_cons,Nat.add_mul];have h3:r.length*(h.size+1+r.length+1)=r.length*(h.size+(r.length+1)+1):=by congr 1;omega
  omega
theorem Lh.gB:∀h:Lh,fits h.all→h.show.length≤48*h.size+1
 | .nil,_=>by simp [Lh.show,Lh.size]
 | .node x l r,h=>by
  have h1:=jV x.1 x.2 h.cons.1.1 h.cons.1.2;have h2:=l.gB h.cons.2.append.1;have h3:=r.gB h.cons.2.append.2;simp only [Lh.show,Lh.size,List.length_cons,List.length_append,List.length_nil];omega
def jZ:List (Lh×Nat)→List UInt8
 | []=>[]
 | (t,e)::ps=>t.show++(List.replicate e 41++(match ps with | []=>[]|p::r=>32::jZ (p::r)))
def fB:List (Lh×Nat)→Nat
 | []=>0
 | (t,_)::ps=>2*t.size+1+fB ps
structure Lh.good (h:Lh):Prop where
 ok:h.ok
 zO:h.zO
 fit:fits h.all
theorem Ad:Lh.good .nil:=⟨trivial,trivial,fits.nil⟩
theorem jQ {a b:Lh}(ha:a.good)(hb:b.good):(bI a b).good:=⟨gm _ _ ha.ok hb.ok,Eu _ _ ha.zO hb.zO,(ha.fit.join hb.fit).perm (bP a b).symm⟩
theorem qR {x:Int×Int}(h:iw x.1∧iw x.2):(Lh.one x).good:=⟨nU x,FI x,by rw [lV];exact fits.more h fits.nil⟩
theorem kL {a:Lh}{x:Int×Int}(ha:a.good)(h:iw x.1∧iw x.2):(a.insert x).good:=jQ (qR h) ha
theorem yN:∀(l:List (Int×Int)) (h:Lh),h.good→fits l→(l.foldl Lh.insert h).good
 | [],_,hk,_=>hk
 | x::r,h,hk,hf=>yN r (h.insert x) (kL hk hf.cons.1) hf.cons.2
theorem kT {l:List (Int×Int)}(h:fits l):(fG l).good:=yN l .nil Ad h
theorem AU {x:Int×Int}{l r:Lh}(h:(Lh.node x l r).good):l.good∧r.good:=⟨⟨h.ok.2.1,h.zO.2.1,h.fit.cons.2.append.1⟩,⟨h.ok.2.2,h.zO.2.2,h.fit.cons.2.append.2⟩⟩
theorem jE {a:Lh}(ha:a.good):a.pop.good:=by cases a with
 | nil=>exact Ad
 | node x l r=>exact jQ (AU ha).1 (AU ha).2
theorem rq (a b:Lh):dw (bI a b).all=dw (a.all++b.all):=bX (bP a b)
theorem nJ (a:Lh)(x:Int×Int):dw (a.insert x).all=dw (x::a.all):=bX (bD a x)
theorem nD (l:List (Int×Int)):dw (fG l).all=dw l:=bX (fJ l)
theorem kS {a:Lh}(h:a.ok):dw a.pop.all=(dw a.all).tail:=by cases a with
 | nil=>simp [Lh.pop,Lh.all,kr]
 | node x l r=>rw [jK h];rfl
end Go.Proofs.YtmeodbjlmjpnbaaGreat.Le
namespace Go.Proofs.YtmeodbjlmjpnbaaGreat.Le
open Go.Sort Go.RowKit
def au (t:TypeId):Prop:=t=272
abbrev Kp (W W':World):Prop:=bO au W W'
theorem ax:¬au 89 := by unfold au;decide
def bB (x:Int×Int)(lp rp:Option Addr)(r s:Nat):Obj :=
 .cells #[.int .i64 x.1,.int .i64 x.2,.pointer lp,.pointer rp,.int .i64 (r:Int),.int .i64 (s:Int)] 272 (0,0)
def aA (W:World):Lh→Option Addr→Prop
 | .nil,p=>p=none
 | .node x l r,p => ∃(b:Nat) (lp rp:Option Addr),p=some ⟨b,0,none⟩∧W.heap[b]?=some (bB x lp rp (r.rank+1) (l.size+1+r.size))∧aA W l lp∧aA W r rp
abbrev hp (p:Option Addr):Value := .agg #[.pointer p]
section
variable {W W':World}
theorem aA.kp (h:Kp W W'):∀{t:Lh} {p:Option Addr},aA W t p→aA W' t p
 | .nil,_,hp=>hp
 | .node _ _ _,_,⟨b,lp,rp,e,hb,h1,h2⟩=>⟨b,lp,rp,e,h _ _ _ rfl hb,aA.kp h h1,aA.kp h h2⟩
theorem aA.stay {t:Lh}{p:Option Addr}(hn:aA W t p)(h:Below W.heap.size W W'):aA W' t p:=hn.kp (bO.below h)
structure Am (W:World)(b:Nat)(x:Int×Int)(lp rp:Option Addr)(r s:Nat):Prop where
 c0:W.cell? ⟨b,0,none⟩=some (.int .i64 x.1)
 c1:W.cell? ⟨b,1,none⟩=some (.int .i64 x.2)
 c2:W.cell? ⟨b,2,none⟩=some (.pointer lp)
 c3:W.cell? ⟨b,3,none⟩=some (.pointer rp)
 c4:W.cell? ⟨b,4,none⟩=some (.int .i64 (r:Int))
 c5:W.cell? ⟨b,5,none⟩=some (.int .i64 (s:Int))
theorem six {b:Nat}{x:Int×Int}{lp rp:Option Addr}{r s:Nat}(h:W.heap[b]?=some (bB x lp rp r s)):Am W b x lp rp r s:=by
 constructor<;>simp [World.cell?,h,bB]
theorem aC {b:Nat}{x:Int×Int}{lp rp:Option Addr}{r s:Nat}(h:W.heap[b]?=some (bB x lp rp r s))(hk:Kp W W'):Am W' b x lp rp r s:=six (hk b _ _ rfl h)
end
def bU (mo:Option Nat)(c m:Int)(t:Lh)(w:World)(e:Ending)(w':World):Prop:=∃p,e=.returned (hp p)∧aA w' t p∧aW w' mo c m∧Bt mo w w'
end Go.Proofs.YtmeodbjlmjpnbaaGreat.Le
namespace Go.Proofs.YtmeodbjlmjpnbaaGreat.Le
open Go.Sort Go.RowKit
theorem eF (t:Lh)(p:Option Addr)(w:World)(h:aA w t p):Calls Tryz.prog 139 #[hp p] w fun e w'=>e=.returned (.int .i64 (t.size:Nat))∧Below w.heap.size w w':=by
 cases t with
 | nil =>
  obtain rfl:=h;go_enter Tryz.func139,Tryz.ntmps139
  go_wp2
  go_ret
  exact ⟨rfl,bG _⟩
 | node x l r =>
  obtain ⟨b,lp,rp,rfl,hb, -, -⟩:=h;have hk:=aC (W':=w.alloc (.cells #[.pointer (some ⟨b,0,none⟩)] 101)) hb (bO.below (bG _));have c5:=hk.c5;clear hk hb;simp only [Lh.size];generalize l.size+1+r.size=n at *;go_enter Tryz.func139,Tryz.ntmps139
  go_wp2
  go_ret
  exact ⟨rfl,bG _⟩
theorem jG (t:Lh)(p:Option Addr)(w:World)(h:aA w t p):Calls Tryz.prog 137 #[hp p] w fun e w'=>e=.returned (.int .i64 (t.rank:Nat))∧Below w.heap.size w w':=by
 cases t with
 | nil =>
  obtain rfl:=h;go_enter Tryz.func137,Tryz.ntmps137
  go_wp2
  go_ret
  exact ⟨rfl,bG _⟩
 | node x l r =>
  obtain ⟨b,lp,rp,rfl,hb, -, -⟩:=h;have hk:=aC (W':=w.alloc (.cells #[.pointer (some ⟨b,0,none⟩)] 101)) hb (bO.below (bG _));have c4:=hk.c4;clear hk hb;simp only [Lh.rank];generalize r.rank+1=n at *;go_enter Tryz.func137,Tryz.ntmps137
  go_wp2
  go_ret
  exact ⟨rfl,bG _⟩
abbrev fH (t:Lh):Value := .tuple #[el t.min.1,.bool t.min.2]
theorem iX (t:Lh)(p:Option Addr)(m:Value)(w:World)(h:aA w t p):Calls Tryz.prog 355 #[hp p,m] w fun e w'=>e=.returned (fH t)∧Below w.heap.size w w':=by
 cases t with
 | nil =>
  obtain rfl:=h;go_enter Tryz.func355,Tryz.ntmps355
  go_wp2
  refine bodyPost_ret (v:=fH .nil) (by simp [results,Tryz.results355,go_sem,Lh.min]) rfl ⟨rfl,?_⟩;exact ((Below.refl w.heap.size w).alloc (Nat.le_refl _) _).alloc (by simp) _
 | node x l r =>
  obtain ⟨b,lp,rp,rfl,hb, -, -⟩:=h;obtain ⟨x1,x2⟩:=x;have hk:=aC (W':=(w.alloc (.cells #[.pointer (some ⟨b,0,none⟩)] 101)).alloc (.cells #[.int .i64 0,.int .i64 0] 29)) hb (bO.below ((bG _).alloc (by simp) _));have c0:=hk.c0;have c1:=hk.c1;clear hk hb;go_enter Tryz.func355,Tryz.ntmps355
  go_wp2
  refine bodyPost_ret (v:=fH (.node (x1,x2) l r)) (by simp [results,Tryz.results355,go_sem,Lh.min]) rfl ⟨rfl,?_⟩;exact ((Below.refl w.heap.size w).alloc (Nat.le_refl _) _).alloc (by simp) _
abbrev Ih (g:Nat):Value := .func (.func 136) #[] #[.pointer (some ⟨g,0,none⟩)]
def Kept (w:World)(mo:Option Nat)(g:Nat):Prop:=w.heap[g]?=some (.cells #[aF mo] 49 (0,0))
theorem rz (mo:Option Nat)(w:World):Calls Tryz.prog 114 #[aF mo] w fun e w'=>e=.returned (Ih w.heap.size)∧Kept w' mo w.heap.size∧Below w.heap.size w w':=by
 have hmf:∀(fn:Fn) (first cap:Array Value) (w:World),(Instr.makeFunc fn first cap).run Tryz.prog w=.ok (.func fn first cap) w:=fun _ _ _ _=>rfl;go_enter Tryz.func114,Tryz.ntmps114
 go_wp2
 go_ret
 exact ⟨rfl,heap_alloc_new w _,bG _⟩
theorem alloc_old {w:World}{k:Nat}(o:Obj)(h:k<w.heap.size):(w.alloc o).heap[k]?=w.heap[k]?:=((Below.refl w.heap.size w).alloc (Nat.le_refl _) o).block k h
structure Fr (W:World)(a:Nat)(x:Int×Int)(lp rp:Option Addr):Prop where
 e:W.heap[a]?=some (.cells #[.int .i64 x.1,.int .i64 x.2] 29 (0,0))
 l:W.heap[a+1]?=some (.cells #[.pointer lp] 101 (0,0))
 r:W.heap[a+2]?=some (.cells #[.pointer rp] 101 (0,0))
 o:W.heap[a+3]?=some (.cells #[.pointer none] 101 (0,0))
section
variable {W W':World}{a:Nat}{x:Int×Int}{lp rp:Option Addr}{mo:Option Nat}{c m:Int}
theorem Fr.new (w:World)(x:Int×Int)(lp rp:Option Addr):Fr ((((w.alloc (.cells #[.int .i64 x.1,.int .i64 x.2] 29)).alloc (.cells #[.pointer lp] 101)).alloc (.cells #[.pointer rp] 101)).alloc (.cells #[.pointer none] 101)) w.heap.size x lp rp :=
 ⟨(alloc_old _ (by simp only [World.size_alloc];omega)).trans ((alloc_old _ (by simp only [World.size_alloc];omega)).trans ((alloc_old _ (by simp only [World.size_alloc];omega)).trans (aJ rfl))),(alloc_old _ (by simp only [World.size_alloc];omega)).trans ((alloc_old _ (by simp only [World.size_alloc];omega)).trans (aJ (by simp))),(alloc_old _ (by simp only [World.size_alloc];omega)).trans (aJ (by simp)),aJ (by simp)⟩
theorem Fr.turn (h:Fr W a x lp rp)(hb:Bt mo W W')(hm:aW W mo c m):Fr W' a x lp rp :=
 ⟨hb.row hm h.e (by decide),hb.row hm h.l (by decide),hb.row hm h.r (by decide),hb.row hm h.o (by decide)⟩
theorem Fr.stay (h:Fr W a x lp rp)(hb:Below W.heap.size W W'):Fr W' a x lp rp :=
 ⟨(hb.block _ (lt_of_heap h.e)).trans h.e,(hb.block _ (lt_of_heap h.l)).trans h.l,(hb.block _ (lt_of_heap h.r)).trans h.r,(hb.block _ (lt_of_heap h.o)).trans h.o⟩
theorem Fr.e0 (h:Fr W a x lp rp):W.cell? ⟨a,0,none⟩=some (.int .i64 x.1):=by simp [World.cell?,h.e]
theorem Fr.e1 (h:Fr W a x lp rp):W.cell? ⟨a,1,none⟩=some (.int .i64 x.2):=by simp [World.cell?,h.e]
theorem Fr.l0 (h:Fr W a x lp rp):W.cell? ⟨a+1,0,none⟩=some (.pointer lp):=by simp [World.cell?,h.l]
theorem Fr.r0 (h:Fr W a x lp rp):W.cell? ⟨a+2,0,none⟩=some (.pointer rp):=by simp [World.cell?,h.r]
theorem Fr.o0 (h:Fr W a x lp rp):W.cell? ⟨a+3,0,none⟩=some (.pointer none):=by simp [World.cell?,h.o]
theorem Fr.zl (h:Fr W a x lp rp):W.frozen? ⟨a+1,0,none⟩=false:=by simp [World.frozen?,h.l]
theorem Fr.zr (h:Fr W a x lp rp):W.frozen? ⟨a+2,0,none⟩=false:=by simp [World.frozen?,h.r]
theorem Fr.zo (h:Fr W a x lp rp):W.frozen? ⟨a+3,0,none⟩=false:=by simp [World.frozen?,h.o]
theorem aH {W:World}{b k:Nat}(j:Nat)(v:Value)(h:k≠b):(W.setCell ⟨b,j,none⟩ v).heap[k]?=W.heap[k]?:=Below.heap_setCell W ⟨b,j,none⟩ v k h
theorem Fr.swap (h:Fr W a x lp rp):Fr ((W.setCell ⟨a+1,0,none⟩ (.pointer rp)).setCell ⟨a+2,0,none⟩ (.pointer lp)) a x rp lp:=by
 refine ⟨?_,?_,?_,?_⟩
 ·rw [aH _ _ (by omega),aH _ _ (by omega)];exact h.e
 ·rw [aH _ _ (by omega)];exact heap_put h.l _
 ·exact heap_put ((aH _ _ (by omega)).trans h.r) _
 ·rw [aH _ _ (by omega),aH _ _ (by omega)];exact h.o
end
theorem FV (mo:Option Nat)(c m:Int)(x1 x2:Int)(l r:Lh)(lp rp:Option Addr)(g:Nat)(w:World)(hv:l.rank<r.rank)(hg:Kept w mo g)(hm:aW w mo c m)(h2:0≤m)(h3:m<2305843009213693952)
  (hl:aA w l lp) (hr:aA w r rp) (hk:l.size+r.size<1073741823) :
  Calls Tryz.prog 136 #[el (x1,x2),hp lp,hp rp,.pointer (some ⟨g,0,none⟩)] w (bU mo c (m+1) (.node (x1,x2) r l) w):=by
 have F1:Fr ((((w.alloc (.cells #[.int .i64 x1,.int .i64 x2] 29)).alloc (.cells #[.pointer lp] 101)).alloc (.cells #[.pointer rp] 101)).alloc (.cells #[.pointer none] 101)) w.heap.size (x1,x2) lp rp:=Fr.new w (x1,x2) lp rp
 have hb1:Below w.heap.size w ((((w.alloc (.cells #[.int .i64 x1,.int .i64 x2] 29)).alloc (.cells #[.pointer lp] 101)).alloc (.cells #[.pointer rp] 101)).alloc (.cells #[.pointer none] 101)) :=
  (((bG _).alloc (by simp) _).alloc (by simp only [World.size_alloc];omega) _).alloc (by simp only [World.size_alloc];omega) _
 have K1:dL au mo w c m ((((w.alloc (.cells #[.int .i64 x1,.int .i64 x2] 29)).alloc (.cells #[.pointer lp] 101)).alloc (.cells #[.pointer rp] 101)).alloc (.cells #[.pointer none] 101)):=(dL.refl hm).stay hb1;have hrl:=l.pW;have hrr:=r.pW;have HV:=hdz hv;have HK:=hdz (af hk (af hrl hrr));have HL:=hdz (af hl hr);have HG:=hdz (af hg (af hm (lt_of_heap hg)));have d1:decide ((l.rank:Int)<(r.rank:Int))=true:=by simp;omega
 have d2:decide (l.rank<r.rank)=true:=by simp;omega
 have d3:l.rank<r.rank:=by omega
 have HF:=hdz F1;have KK:=hdz K1;clear hv hk hrl hrr hl hr hg hm hb1 F1 K1;go_enter Tryz.func136,Tryz.ntmps136
 go_wp2_with fail
 generalize (((w.alloc (.cells #[.int .i64 x1,.int .i64 x2] 29)).alloc (.cells #[.pointer lp] 101)).alloc (.cells #[.pointer rp] 101)).alloc (.cells #[.pointer none] 101)=w1 at *;obtain ⟨a,ha⟩:=aU (w.heap.size);rw [←ha]at HF ⊢;have HA:=hdz ha;clear ha;have l0:=HF.out.l0;have r0:=HF.out.r0
 go_region_held3 (fun w'=>w'.cell? ⟨a+1,0,none⟩=some (.pointer lp)∧w'.cell? ⟨a+2,0,none⟩=some (.pointer rp)) (go_keep)
  (first|(go_at_call 137;((with_reducible refine (jG l lp _ (HL.out.1.kp K2.out.kp)).mono ?_);rintro e w3 ⟨rfl,hb3⟩;have F3:=hdz (F2.out.stay hb3);have K3:=hdz (K2.out.stay hb3);have l2:=F3.out.l0;have r2:=F3.out.r0;clear hb3))|(go_at_call 137;((with_reducible refine (jG r rp _ (HL.out.2.kp KK.out.drew.kp)).mono ?_);rintro e w2 ⟨rfl,hb2⟩;have F2:=hdz ((HF.out.stay ((Below.refl _ _).drew)).stay hb2);have K2:=hdz (KK.out.drew.stay hb2);have l1:=F2.out.l0;have r1:=F2.out.r0;clear hb2)))
 clear l1 r1 l0 r0;have z1:=F3.out.zl;have z2:=F3.out.zr;have ng:g<a:=by rw [HA.out];exact HG.out.2.2
 have ng1:¬g=a+1:=by omega
 have ng2:¬g=a+2:=by omega
 have t3:w3.cell? ⟨g,0,none⟩=some (aF mo):=by have hz:=(K3.out.bt.row HG.out.2.1 HG.out.1 (by decide));simp [World.cell?,hz]
 have F4:=hdz F3.out.swap;have K4:=hdz ((K3.out.put F3.out.l (by unfold au;decide) (by decide) (by rw [←HA.out];omega) 0 (.pointer rp)).put ((aH (b:=a+1) 0 (.pointer rp) (by omega)).trans F3.out.r) (by unfold au;decide) (by decide) (by rw [←HA.out];omega) 0 (.pointer lp));go_wp2_with fail
 clear t3 l2 r2 z1 z2 ng ng1 ng2;generalize (w3.setCell ⟨a+1,0,none⟩ (.pointer rp)).setCell ⟨a+2,0,none⟩ (.pointer lp)=w4 at *;((with_reducible refine (mZ mo c m _ K4.out.mt h2 (by omega)).mono ?_);rintro e w5 ⟨rfl,Im,hb5⟩);have F5:=hdz (F4.out.turn hb5 K4.out.mt);have K5:=hdz (K4.out.turn Im hb5 ax);have l5:=F5.out.l0;have r5:=F5.out.r0;clear Im hb5 F4 K4;go_wp2_with fail
 go_region_held3 (fun w'=>w'.cell? ⟨a+1,0,none⟩=some (.pointer rp)∧w'.cell? ⟨a+2,0,none⟩=some (.pointer lp)) (go_keep)
  (first|(go_at_call 139;((with_reducible refine (eF l lp _ (HL.out.1.kp K6.out.kp)).mono ?_);rintro e w7 ⟨rfl,Iu⟩;have F7:=hdz (F6.out.stay Iu);have K7:=hdz (K6.out.stay Iu);have l7:=F7.out.l0;have r7:=F7.out.r0;have o7:=F7.out.o0;have z7:=F7.out.zo;have e07:=F7.out.e0;have e17:=F7.out.e1;clear Iu))|(go_at_call 139;((with_reducible refine (eF r rp _ (HL.out.2.kp K5.out.drew.kp)).mono ?_);rintro e w6 ⟨rfl,hb6⟩;have F6:=hdz ((F5.out.stay ((Below.refl _ _).drew)).stay hb6);have K6:=hdz (K5.out.drew.stay hb6);have l6:=F6.out.l0;have r6:=F6.out.r0;clear hb6)))
 clear l5 r5 l6 r6;go_wp2_with fail
 have n1:¬a=a+1+1+1:=by omega
 have n2:¬a+1=a+1+1+1:=by omega
 have n3:¬a+1+1+1=a:=by omega
 have n4:¬a+1+1+1=a+1:=by omega
 have n5:¬a=a+1+1:=by omega
 have n6:¬a+1+1=a:=by omega
 go_region_held3 (fun w'=>w'.cell? ⟨a,0,none⟩=some (.int .i64 x1)∧w'.cell? ⟨a,1,none⟩=some (.int .i64 x2)∧w'.cell? ⟨a+1,0,none⟩=some (.pointer rp)∧w'.cell? ⟨a+2,0,none⟩=some (.pointer lp)) (go_keep)
  (first|(go_at_call 137;((with_reducible refine (jG l lp _ (HL.out.1.kp K7.out.drew.kp)).mono ?_);rintro e w8 ⟨rfl,IB⟩;have F8:=hdz ((F7.out.stay ((Below.refl _ _).drew)).stay IB);have K8:=hdz (K7.out.drew.stay IB);have e08:=F8.out.e0;have e18:=F8.out.e1;have l8:=F8.out.l0;have r8:=F8.out.r0;have o8:=F8.out.o0;have z8:=F8.out.zo;have n8:=lt_of_heap F8.out.o;clear IB)))
 go_wp2_with fail
 have e1:IntKind.i64.wrap ((l.rank:Int)+1)=((l.rank+1:Nat):Int):=by have:=HK.out;rw [IntKind.wrap_i64];omega
 have e2:IntKind.i64.wrap (IntKind.i64.wrap ((r.size:Int)+1)+l.size)=((r.size+1+l.size:Nat):Int):=by have:=HK.out;rw [IntKind.wrap_i64,IntKind.wrap_i64];omega
 rw [e1,e2];have hk:=(K8.out.put F8.out.o (by unfold au;decide) (by decide) (by rw [←HA.out];omega) 0 (.pointer (some ⟨w8.heap.size,0,none⟩))).alloc (bB (x1,x2) rp lp (l.rank+1) (r.size+1+l.size));refine bodyPost_ret (v:=hp (some ⟨w8.heap.size,0,none⟩)) (by simp [results,Tryz.results136,go_sem,o8,n8]) rfl ⟨_,rfl,?_,hk.mt,hk.bt⟩;exact ⟨w8.heap.size,rp,lp,rfl,aJ (by simp [World.setCell]),HL.out.2.kp hk.kp,HL.out.1.kp hk.kp⟩
theorem FL (mo:Option Nat)(c m:Int)(x1 x2:Int)(l r:Lh)(lp rp:Option Addr)(g:Nat)(w:World)(hv:r.rank≤l.rank)(hg:Kept w mo g)(hm:aW w mo c m)(h2:0≤m)(h3:m<2305843009213693952)
  (hl:aA w l lp) (hr:aA w r rp) (hk:l.size+r.size<1073741823) :
  Calls Tryz.prog 136 #[el (x1,x2),hp lp,hp rp,.pointer (some ⟨g,0,none⟩)] w (bU mo c (m+1) (.node (x1,x2) l r) w):=by
 have F1:Fr ((((w.alloc (.cells #[.int .i64 x1,.int .i64 x2] 29)).alloc (.cells #[.pointer lp] 101)).alloc (.cells #[.pointer rp] 101)).alloc (.cells #[.pointer none] 101)) w.heap.size (x1,x2) lp rp:=Fr.new w (x1,x2) lp rp
 have hb1:Below w.heap.size w ((((w.alloc (.cells #[.int .i64 x1,.int .i64 x2] 29)).alloc (.cells #[.pointer lp] 101)).alloc (.cells #[.pointer rp] 101)).alloc (.cells #[.pointer none] 101)) :=
  (((bG _).alloc (by simp) _).alloc (by simp only [World.size_alloc];omega) _).alloc (by simp only [World.size_alloc];omega) _
 have K1:dL au mo w c m ((((w.alloc (.cells #[.int .i64 x1,.int .i64 x2] 29)).alloc (.cells #[.pointer lp] 101)).alloc (.cells #[.pointer rp] 101)).alloc (.cells #[.pointer none] 101)):=(dL.refl hm).stay hb1;have hrl:=l.pW;have hrr:=r.pW;have HV:=hdz hv;have HK:=hdz (af hk (af hrl hrr));have HL:=hdz (af hl hr);have HG:=hdz (af hg (af hm (lt_of_heap hg)));have d1:decide ((l.rank:Int)<(r.rank:Int))=false:=by simp;omega
 have d2:decide (l.rank<r.rank)=false:=by simp;omega
 have d3:¬l.rank<r.rank:=by omega
 have HF:=hdz F1;have KK:=hdz K1;clear hv hk hrl hrr hl hr hg hm hb1 F1 K1;go_enter Tryz.func136,Tryz.ntmps136
 go_wp2_with fail
 generalize (((w.alloc (.cells #[.int .i64 x1,.int .i64 x2] 29)).alloc (.cells #[.pointer lp] 101)).alloc (.cells #[.pointer rp] 101)).alloc (.cells #[.pointer none] 101)=w1 at *;obtain ⟨a,ha⟩:=aU (w.heap.size);rw [←ha]at HF ⊢;have HA:=hdz ha;clear ha;have l0:=HF.out.l0;have r0:=HF.out.r0
 go_region_held3 (fun w'=>w'.cell? ⟨a+1,0,none⟩=some (.pointer lp)∧w'.cell? ⟨a+2,0,none⟩=some (.pointer rp)) (go_keep)
  (first|(go_at_call 137;((with_reducible refine (jG l lp _ (HL.out.1.kp K2.out.kp)).mono ?_);rintro e w3 ⟨rfl,hb3⟩;have F3:=hdz (F2.out.stay hb3);have K3:=hdz (K2.out.stay hb3);have l2:=F3.out.l0;have r2:=F3.out.r0;clear hb3))|(go_at_call 137;((with_reducible refine (jG r rp _ (HL.out.2.kp KK.out.drew.kp)).mono ?_);rintro e w2 ⟨rfl,hb2⟩;have F2:=hdz ((HF.out.stay ((Below.refl _ _).drew)).stay hb2);have K2:=hdz (KK.out.drew.stay hb2);have l1:=F2.out.l0;have r1:=F2.out.r0;clear hb2)))
 clear l1 r1 l0 r0;have t3:w3.cell? ⟨g,0,none⟩=some (aF mo):=by have hz:=(K3.out.bt.row HG.out.2.1 HG.out.1 (by decide));simp [World.cell?,hz]
 have F4:=F3;have K4:=K3;go_wp2_with fail
 clear t3 l2 r2;((with_reducible refine (mZ mo c m _ K4.out.mt h2 (by omega)).mono ?_);rintro e w5 ⟨rfl,Im,hb5⟩);have F5:=hdz (F4.out.turn hb5 K4.out.mt);have K5:=hdz (K4.out.turn Im hb5 ax);have l5:=F5.out.l0;have r5:=F5.out.r0;clear Im hb5 F4 K4;go_wp2_with fail
 go_region_held3 (fun w'=>w'.cell? ⟨a+1,0,none⟩=some (.pointer lp)∧w'.cell? ⟨a+2,0,none⟩=some (.pointer rp)) (go_keep)
  (first|(go_at_call 139;((with_reducible refine (eF r rp _ (HL.out.2.kp K6.out.kp)).mono ?_);rintro e w7 ⟨rfl,Iu⟩;have F7:=hdz (F6.out.stay Iu);have K7:=hdz (K6.out.stay Iu);have l7:=F7.out.l0;have r7:=F7.out.r0;have o7:=F7.out.o0;have z7:=F7.out.zo;have e07:=F7.out.e0;have e17:=F7.out.e1;clear Iu))|(go_at_call 139;((with_reducible refine (eF l lp _ (HL.out.1.kp K5.out.drew.kp)).mono ?_);rintro e w6 ⟨rfl,hb6⟩;have F6:=hdz ((F5.out.stay ((Below.refl _ _).drew)).stay hb6);have K6:=hdz (K5.out.drew.stay hb6);have l6:=F6.out.l0;have r6:=F6.out.r0;clear hb6)))
 clear l5 r5 l6 r6;go_wp2_with fail
 have n1:¬a=a+1+1+1:=by omega
 have n2:¬a+1=a+1+1+1:=by omega
 have n3:¬a+1+1+1=a:=by omega
 have n4:¬a+1+1+1=a+1:=by omega
 have n5:¬a=a+1+1:=by omega
 have n6:¬a+1+1=a:=by omega
 go_region_held3 (fun w'=>w'.cell? ⟨a,0,none⟩=some (.int .i64 x1)∧w'.cell? ⟨a,1,none⟩=some (.int .i64 x2)∧w'.cell? ⟨a+1,0,none⟩=some (.pointer lp)∧w'.cell? ⟨a+2,0,none⟩=some (.pointer rp)) (go_keep)
  (first|(go_at_call 137;((with_reducible refine (jG r rp _ (HL.out.2.kp K7.out.drew.kp)).mono ?_);rintro e w8 ⟨rfl,IB⟩;have F8:=hdz ((F7.out.stay ((Below.refl _ _).drew)).stay IB);have K8:=hdz (K7.out.drew.stay IB);have e08:=F8.out.e0;have e18:=F8.out.e1;have l8:=F8.out.l0;have r8:=F8.out.r0;have o8:=F8.out.o0;have z8:=F8.out.zo;have n8:=lt_of_heap F8.out.o;clear IB)))
 go_wp2_with fail
 have e1:IntKind.i64.wrap ((r.rank:Int)+1)=((r.rank+1:Nat):Int):=by have:=HK.out;rw [IntKind.wrap_i64];omega
 have e2:IntKind.i64.wrap (IntKind.i64.wrap ((l.size:Int)+1)+r.size)=((l.size+1+r.size:Nat):Int):=by have:=HK.out;rw [IntKind.wrap_i64,IntKind.wrap_i64];omega
 rw [e1,e2];have hk:=(K8.out.put F8.out.o (by unfold au;decide) (by decide) (by rw [←HA.out];omega) 0 (.pointer (some ⟨w8.heap.size,0,none⟩))).alloc (bB (x1,x2) lp rp (r.rank+1) (l.size+1+r.size));refine bodyPost_ret (v:=hp (some ⟨w8.heap.size,0,none⟩)) (by simp [results,Tryz.results136,go_sem,o8,n8]) rfl ⟨_,rfl,?_,hk.mt,hk.bt⟩;exact ⟨w8.heap.size,lp,rp,rfl,aJ (by simp [World.setCell]),HL.out.1.kp hk.kp,HL.out.2.kp hk.kp⟩
end Go.Proofs.YtmeodbjlmjpnbaaGreat.Le
namespace Go.Proofs.YtmeodbjlmjpnbaaGreat.Le
open Go.Sort Go.RowKit
theorem xH (mo:Option Nat)(c m:Int)(x:Int×Int)(l r:Lh)(lp rp:Option Addr)(g:Nat)(w:World)(hg:Kept w mo g)(hm:aW w mo c m)(h2:0≤m)(h3:m<2305843009213693952)
  (hl:aA w l lp) (hr:aA w r rp) (hk:l.size+r.size<1073741823) :
  Calls Tryz.prog 136 #[el x,hp lp,hp rp,.pointer (some ⟨g,0,none⟩)] w (bU mo c (m+1) (DU x l r) w):=by
 obtain ⟨x1,x2⟩:=x;unfold DU;split
 next h=>exact FV mo c m x1 x2 l r lp rp g w h hg hm h2 h3 hl hr hk
 next h=>exact FL mo c m x1 x2 l r lp rp g w (by omega) hg hm h2 h3 hl hr hk
theorem ja (mo:Option Nat)(q:Option Addr)(w:World):Calls Tryz.prog 115 #[hp none,aF mo,hp q] w fun e w'=>e=.returned (hp q)∧Below w.heap.size w w':=by
 go_enter Tryz.func115,Tryz.ntmps115
 go_wp2_with fail
 refine bodyPost_ret (v:=hp q) (by simp [results,Tryz.results115,go_sem]) rfl ⟨rfl,?_⟩;exact ((bG _).alloc (by simp) _).alloc (by simp only [World.size_alloc];omega) _
theorem ig (mo:Option Nat)(b:Nat)(w:World):Calls Tryz.prog 115 #[hp (some ⟨b,0,none⟩),aF mo,hp none] w fun e w'=>e=.returned (hp (some ⟨b,0,none⟩))∧Below w.heap.size w w':=by
 go_enter Tryz.func115,Tryz.ntmps115
 go_wp2_with fail
 refine bodyPost_ret (v:=hp (some ⟨b,0,none⟩)) (by simp [results,Tryz.results115,go_sem]) rfl ⟨rfl,?_⟩;exact ((bG _).alloc (by simp) _).alloc (by simp only [World.size_alloc];omega) _
structure Fm (W:World)(a:Nat)(pa pb pl:Option Addr):Prop where
 h:W.heap[a]?=some (.cells #[.pointer pa] 101 (0,0))
 o:W.heap[a+1]?=some (.cells #[.pointer pb] 101 (0,0))
 r:W.heap[a+2]?=some (.cells #[.pointer none] 101 (0,0))
 l:W.heap[a+3]?=some (.cells #[.pointer pl] 101 (0,0))
section
variable {W W':World}{a:Nat}{pa pb pl:Option Addr}{mo:Option Nat}{c m:Int}
theorem Fm.new (w:World)(pa pb:Option Addr):Fm (((((w.alloc (.cells #[.pointer pa] 101)).alloc (.cells #[.pointer pb] 101)).alloc (.cells #[.pointer none] 101)).alloc (.cells #[.pointer pb] 101)).drew) w.heap.size pa pb pb:=by
 refine ⟨?_,?_,?_,?_⟩
 ·show ((((w.alloc _).alloc _).alloc _).alloc _).heap[w.heap.size]?=_;rw [alloc_old _ (by simp only [World.size_alloc];omega),alloc_old _ (by simp only [World.size_alloc];omega),alloc_old _ (by simp only [World.size_alloc];omega)];exact aJ rfl
 ·show ((((w.alloc _).alloc _).alloc _).alloc _).heap[w.heap.size+1]?=_;rw [alloc_old _ (by simp only [World.size_alloc];omega),alloc_old _ (by simp only [World.size_alloc];omega)];exact aJ (by simp)
 ·show ((((w.alloc _).alloc _).alloc _).alloc _).heap[w.heap.size+2]?=_;rw [alloc_old _ (by simp only [World.size_alloc];omega)];exact aJ (by simp)
 ·exact aJ (by simp)
theorem Fm.turn (h:Fm W a pa pb pl)(hb:Bt mo W W')(hm:aW W mo c m):Fm W' a pa pb pl :=
 ⟨hb.row hm h.h (by decide),hb.row hm h.o (by decide),hb.row hm h.r (by decide),hb.row hm h.l (by decide)⟩
theorem Fm.stay (h:Fm W a pa pb pl)(hb:Below W.heap.size W W'):Fm W' a pa pb pl :=
 ⟨(hb.block _ (lt_of_heap h.h)).trans h.h,(hb.block _ (lt_of_heap h.o)).trans h.o,(hb.block _ (lt_of_heap h.r)).trans h.r,(hb.block _ (lt_of_heap h.l)).trans h.l⟩
theorem Fm.h0 (h:Fm W a pa pb pl):W.cell? ⟨a,0,none⟩=some (.pointer pa):=by simp [World.cell?,h.h]
theorem Fm.o0 (h:Fm W a pa pb pl):W.cell? ⟨a+1,0,none⟩=some (.pointer pb):=by simp [World.cell?,h.o]
theorem Fm.r0 (h:Fm W a pa pb pl):W.cell? ⟨a+2,0,none⟩=some (.pointer none):=by simp [World.cell?,h.r]
theorem Fm.l0 (h:Fm W a pa pb pl):W.cell? ⟨a+3,0,none⟩=some (.pointer pl):=by simp [World.cell?,h.l]
theorem Fm.zr (h:Fm W a pa pb pl):W.frozen? ⟨a+2,0,none⟩=false:=by simp [World.frozen?,h.r]
theorem Fm.zl (h:Fm W a pa pb pl):W.frozen? ⟨a+3,0,none⟩=false:=by simp [World.frozen?,h.l]
theorem Fm.put (h:Fm W a pa pb pl)(q:Option Addr):Fm (W.setCell ⟨a+3,0,none⟩ (.pointer q)) a pa pb q :=
 ⟨(aH _ _ (by omega)).trans h.h,(aH _ _ (by omega)).trans h.o,(aH _ _ (by omega)).trans h.r,heap_put h.l _⟩
end
def bQ (mo:Option Nat)(n:Nat):Prop:=∀(a b:Lh),a.size+b.size<n → ∀(c m:Int) (p q:Option Addr) (w:World),aW w mo c m→0≤c→c+(a.size+b.size:Nat)<1152921504606846976→0≤m→m+(a.size+b.size:Nat)<1152921504606846976 →
 aA w a p→aA w b q→Calls Tryz.prog 115 #[hp p,aF mo,hp q] w (bU mo (c+aQ a b) (m+aQ a b) (bI a b) w)
theorem vC (mo:Option Nat)(n:Nat)(hI:bQ mo n)(hn:n<268435456)(x1 x2 y1 y2:Int)(l r l' r':Lh)(hs:(Lh.node (x1,x2) l r).size+(Lh.node (y1,y2) l' r').size=n)(hv:dH (y1,y2) (x1,x2)=true)(c m:Int)(pa pb:Nat)(w:World)
  (hm:aW w mo c m) (h0:0≤c) (h1:c+(n:Nat)<1152921504606846976) (h2:0≤m) (h3:m+(n:Nat)<1152921504606846976) (ha:aA w (.node (x1,x2) l r) (some ⟨pa,0,none⟩)) (hb:aA w (.node (y1,y2) l' r') (some ⟨pb,0,none⟩)) :
  Calls Tryz.prog 115 #[hp (some ⟨pa,0,none⟩),aF mo,hp (some ⟨pb,0,none⟩)] w (bU mo (c+aQ (.node (x1,x2) l r) (.node (y1,y2) l' r')) (m+aQ (.node (x1,x2) l r) (.node (y1,y2) l' r')) (bI (.node (x1,x2) l r) (.node (y1,y2) l' r')) w):=by
 rw [fw hv,zW hv];have HA0:=hdz ha;have HB0:=hdz hb;obtain ⟨_,lp,rp,ea,hah,hal,har⟩:=ha
 cases ea
 obtain ⟨_,lp',rp',eb,Iz,hbl,hbr⟩:=hb
 cases eb
 have hb1:Below w.heap.size w (((((w.alloc (.cells #[.pointer (some ⟨pa,0,none⟩)] 101)).alloc (.cells #[.pointer (some ⟨pb,0,none⟩)] 101)).alloc (.cells #[.pointer none] 101)).alloc (.cells #[.pointer (some ⟨pb,0,none⟩)] 101)).drew) :=
  (((bG _).alloc (by simp) _).alloc (by simp only [World.size_alloc];omega) _).alloc (by simp only [World.size_alloc];omega) _ |>.drew
 have F1:Fm (((((w.alloc (.cells #[.pointer (some ⟨pa,0,none⟩)] 101)).alloc (.cells #[.pointer (some ⟨pb,0,none⟩)] 101)).alloc (.cells #[.pointer none] 101)).alloc (.cells #[.pointer (some ⟨pb,0,none⟩)] 101)).drew) w.heap.size (some ⟨pa,0,none⟩) (some ⟨pb,0,none⟩) (some ⟨pb,0,none⟩):=Fm.new w _ _;have K1:dL au mo w c m (((((w.alloc (.cells #[.pointer (some ⟨pa,0,none⟩)] 101)).alloc (.cells #[.pointer (some ⟨pb,0,none⟩)] 101)).alloc (.cells #[.pointer none] 101)).alloc (.cells #[.pointer (some ⟨pb,0,none⟩)] 101)).drew):=(dL.refl hm).stay hb1;have HC:=hdz (af hah Iz);have HL:=hdz (af hal (af har (af hbl hbr)));have HI:=hdz (fun (u v:Lh) (hu:u.size+v.size<n)=>hI u v hu);have HN:=hdz (af hn (af hs (af h0 (af h1 (af h2 (af h3 (af (lt_of_heap hah) (lt_of_heap Iz))))))));have HV:=hdz hv;have HF:=hdz F1;have KK:=hdz K1;clear hah Iz hal har hbl hbr hI hn hs h0 h1 h2 h3 hv F1 K1 hb1 hm;go_enter Tryz.func115,Tryz.ntmps115
 go_wp2_with fail
 go_region
 generalize ((((w.alloc (.cells #[.pointer (some ⟨pa,0,none⟩)] 101)).alloc (.cells #[.pointer (some ⟨pb,0,none⟩)] 101)).alloc (.cells #[.pointer none] 101)).alloc (.cells #[.pointer (some ⟨pb,0,none⟩)] 101)).drew=w1 at *;obtain ⟨a,ha⟩:=aU (w.heap.size);rw [←ha]at HF ⊢;have HA:=hdz ha;clear ha;have f0:=HF.out.h0;have f1:=HF.out.o0;have a0:=(aC HC.out.1 KK.out.kp).c0;have a1:=(aC HC.out.1 KK.out.kp).c1;have b0:=(aC HC.out.2 KK.out.kp).c0;have b1:=(aC HC.out.2 KK.out.kp).c1;go_wp2_with fail
 go_region_held3 (fun w'=>w'.cell? ⟨a,0,none⟩=some (.pointer (some ⟨pa,0,none⟩))∧w'.cell? ⟨a+1,0,none⟩=some (.pointer (some ⟨pb,0,none⟩))∧w'.cell? ⟨pa,0,none⟩=some (.int .i64 x1)∧w'.cell? ⟨pa,1,none⟩=some (.int .i64 x2)∧w'.cell? ⟨pb,0,none⟩=some (.int .i64 y1)∧w'.cell? ⟨pb,1,none⟩=some (.int .i64 y2)) (go_keep)
  (first|(go_at_call 140;((with_reducible refine (lM mo c m (y1,y2) (x1,x2) _ KK.out.drew.mt HN.out.2.2.1 (by have:=HN.out.2.2.2.1;omega)).mono ?_);rintro e w2 ⟨rfl,hm2,hb2⟩;rw [HV.out];have F2:=hdz ((HF.out.stay ((Below.refl _ _).drew)).turn hb2 KK.out.drew.mt);have K2:=hdz (KK.out.drew.turn hm2 hb2 ax);have g0:=F2.out.h0;have g1:=F2.out.o0;have c0:=(aC HC.out.1 K2.out.kp).c0;have c1:=(aC HC.out.1 K2.out.kp).c1;have d0:=(aC HC.out.2 K2.out.kp).c0;have d1:=(aC HC.out.2 K2.out.kp).c1;have z2:=F2.out.zl;have l2:=F2.out.l0;clear hm2 hb2)))
 clear f0 f1 a0 a1 b0 b1 c0 c1 d0 d1;go_wp2_with fail
 go_region
 have F3:=hdz (F2.out.put (some ⟨pa,0,none⟩) |>.stay ((Below.refl _ _).drew));have K3:=hdz ((K2.out.put F2.out.l (by unfold au;decide) (by decide) (by rw [←HA.out];omega) 0 (.pointer (some ⟨pa,0,none⟩))).drew);clear g0 g1 z2 l2;generalize (w2.setCell ⟨a+3,0,none⟩ (.pointer (some ⟨pa,0,none⟩))).drew=w3 at *;go_wp2_with fail
 ((with_reducible refine (rz mo _).mono ?_);rintro e w4 ⟨rfl,hg4,hb4⟩);have F4:=hdz (F3.out.stay hb4);have K4:=hdz (K3.out.stay hb4);have G4:=hdz hg4;obtain ⟨g,hg⟩:=aU (w3.heap.size);rw [←hg]at G4 ⊢;clear hg hg4 hb4;have s6:=aC HC.out.2 K4.out.kp;have c0:=s6.c0;have c1:=s6.c1;have c2:=s6.c2;have c3:=s6.c3;have l4:=F4.out.l0;clear s6;go_wp2_with fail
 have HQ:=hdz (show r'.size+(Lh.node (x1,x2) l r).size<n∧0≤c+1∧c+1+(r'.size+(Lh.node (x1,x2) l r).size:Nat)<1152921504606846976∧0≤m∧m+(r'.size+(Lh.node (x1,x2) l r).size:Nat)<1152921504606846976∧aQ r' (Lh.node (x1,x2) l r)≤r'.size+(Lh.node (x1,x2) l r).size∧l'.size+(r'.size+(Lh.node (x1,x2) l r).size)<1073741823 by
  obtain ⟨q1,q2,q3,q4,q5,q6, -⟩:=HN.out;have q7:=kF r' (Lh.node (x1,x2) l r);simp only [Lh.size]at q2 q7 ⊢;omega)
 have n1:¬pb=a+1+1:=by rw [HA.out];have:=HN.out.2.2.2.2.2.2;omega
 have n2:¬a+1+1=pb:=by rw [HA.out];have:=HN.out.2.2.2.2.2.2;omega
 have n3:¬a+3=a+1+1:=by omega
 have n4:¬a+1+1=a+3:=by omega
 go_region_held3 (fun w'=>w'.cell? ⟨pb,0,none⟩=some (.int .i64 y1)∧w'.cell? ⟨pb,1,none⟩=some (.int .i64 y2)∧w'.cell? ⟨pb,2,none⟩=some (.pointer lp')∧w'.cell? ⟨pb,3,none⟩=some (.pointer rp')∧w'.cell? ⟨a+3,0,none⟩=some (.pointer (some ⟨pa,0,none⟩))) (go_keep)
  (first|(go_at_call 136;((with_reducible refine (xH mo _ _ (y1,y2) l' (bI r' (Lh.node (x1,x2) l r)) lp' p5 g _ (KG.out) K5.out.mt (by have:=HQ.out;omega) (by have:=HQ.out;omega) (HL.out.2.2.1.kp K5.out.kp) T5.out (by rw [d9];exact HQ.out.2.2.2.2.2.2)).mono ?_);rintro e w6 ⟨p6,rfl,Io,Iy,hb6⟩;have F6:=hdz (F5.out.turn hb6 K5.out.mt);have K6:=hdz (K5.out.turn Iy hb6 ax);have T6:=hdz Io;have s6:=aC HC.out.2 K6.out.kp;have e0:=s6.c0;have e1:=s6.c1;have e2:=s6.c2;have e3:=s6.c3;have l6:=F6.out.l0;have r6:=F6.out.r0;have z6:=F6.out.zr;clear Io Iy hb6 s6))|(go_at_call 115;((with_reducible refine (HI.out r' (Lh.node (x1,x2) l r) HQ.out.1 (c+1) m rp' (some ⟨pa,0,none⟩) _ K4.out.drew.mt HQ.out.2.1 HQ.out.2.2.1 HQ.out.2.2.2.1 HQ.out.2.2.2.2.1 (HL.out.2.2.2.kp K4.out.drew.kp) (HA0.out.kp K4.out.drew.kp)).mono ?_);rintro e w5 ⟨p5,rfl,Ip,Im,hb5⟩;have F5:=hdz ((F4.out.stay ((Below.refl _ _).drew)).turn hb5 K4.out.drew.mt);have K5:=hdz (K4.out.drew.turn Im hb5 ax);have KG:=hdz (show Kept w5 mo g from (hb5.row K4.out.drew.mt (show w4.drew.heap[g]?=_ from G4.out) (by decide)));have T5:=hdz Ip;have s6:=aC HC.out.2 K5.out.kp;have k0:=s6.c0;have k1:=s6.c1;have k2:=s6.c2;have k3:=s6.c3;have l5:=F5.out.l0;clear Ip Im hb5 s6)))
 go_wp2_with fail
 have hk:=(K6.out.put F6.out.r (by unfold au;decide) (by decide) (by rw [←HA.out];omega) 0 (.pointer p6));refine bodyPost_ret (v:=hp p6) (by simp [results,Tryz.results115,go_sem,r6]) rfl ⟨_,rfl,T6.out.kp (bO.set F6.out.r (by unfold au;decide) 0 _),?_,hk.bt⟩;have e1:c+((1+aQ r' (Lh.node (x1,x2) l r):Nat):Int)=c+1+aQ r' (Lh.node (x1,x2) l r):=by omega
 have e2:m+((1+aQ r' (Lh.node (x1,x2) l r):Nat):Int)=m+aQ r' (Lh.node (x1,x2) l r)+1:=by omega
 rw [e1,e2];exact hk.mt
theorem sO (mo:Option Nat)(n:Nat)(hI:bQ mo n)(hn:n<268435456)(x1 x2 y1 y2:Int)(l r l' r':Lh)(hs:(Lh.node (x1,x2) l r).size+(Lh.node (y1,y2) l' r').size=n)(hv:dH (y1,y2) (x1,x2)=false)(c m:Int)(pa pb:Nat)(w:World)
  (hm:aW w mo c m) (h0:0≤c) (h1:c+(n:Nat)<1152921504606846976) (h2:0≤m) (h3:m+(n:Nat)<1152921504606846976) (ha:aA w (.node (x1,x2) l r) (some ⟨pa,0,none⟩)) (hb:aA w (.node (y1,y2) l' r') (some ⟨pb,0,none⟩)) :
  Calls Tryz.prog 115 #[hp (some ⟨pa,0,none⟩),aF mo,hp (some ⟨pb,0,none⟩)] w (bU mo (c+aQ (.node (x1,x2) l r) (.node (y1,y2) l' r')) (m+aQ (.node (x1,x2) l r) (.node (y1,y2) l' r')) (bI (.node (x1,x2) l r) (.node (y1,y2) l' r')) w):=by
 rw [iY hv,zX hv];have HA0:=hdz ha;have HB0:=hdz hb;obtain ⟨_,lp,rp,ea,hah,hal,har⟩:=ha
 cases ea
 obtain ⟨_,lp',rp',eb,Iz,hbl,hbr⟩:=hb
 cases eb
 have hb1:Below w.heap.size w (((((w.alloc (.cells #[.pointer (some ⟨pa,0,none⟩)] 101)).alloc (.cells #[.pointer (some ⟨pb,0,none⟩)] 101)).alloc (.cells #[.pointer none] 101)).alloc (.cells #[.pointer (some ⟨pb,0,none⟩)] 101)).drew) :=
  (((bG _).alloc (by simp) _).alloc (by simp only [World.size_alloc];omega) _).alloc (by simp only [World.size_alloc];omega) _ |>.drew
 have F1:Fm (((((w.alloc (.cells #[.pointer (some ⟨pa,0,none⟩)] 101)).alloc (.cells #[.pointer (some ⟨pb,0,none⟩)] 101)).alloc (.cells #[.pointer none] 101)).alloc (.cells #[.pointer (some ⟨pb,0,none⟩)] 101)).drew) w.heap.size (some ⟨pa,0,none⟩) (some ⟨pb,0,none⟩) (some ⟨pb,0,none⟩):=Fm.new w _ _;have K1:dL au mo w c m (((((w.alloc (.cells #[.pointer (some ⟨pa,0,none⟩)] 101)).alloc (.cells #[.pointer (some ⟨pb,0,none⟩)] 101)).alloc (.cells #[.pointer none] 101)).alloc (.cells #[.pointer (some ⟨pb,0,none⟩)] 101)).drew):=(dL.refl hm).stay hb1;have HC:=hdz (af hah Iz);have HL:=hdz (af hal (af har (af hbl hbr)));have HI:=hdz (fun (u v:Lh) (hu:u.size+v.size<n)=>hI u v hu);have HN:=hdz (af hn (af hs (af h0 (af h1 (af h2 (af h3 (af (lt_of_heap hah) (lt_of_heap Iz))))))));have HV:=hdz hv;have HF:=hdz F1;have KK:=hdz K1;clear hah Iz hal har hbl hbr hI hn hs h0 h1 h2 h3 hv F1 K1 hb1 hm;go_enter Tryz.func115,Tryz.ntmps115
 go_wp2_with fail
 go_region
 generalize ((((w.alloc (.cells #[.pointer (some ⟨pa,0,none⟩)] 101)).alloc (.cells #[.pointer (some ⟨pb,0,none⟩)] 101)).alloc (.cells #[.pointer none] 101)).alloc (.cells #[.pointer (some ⟨pb,0,none⟩)] 101)).drew=w1 at *;obtain ⟨a,ha⟩:=aU (w.heap.size);rw [←ha]at HF ⊢;have HA:=hdz ha;clear ha;have f0:=HF.out.h0;have f1:=HF.out.o0;have a0:=(aC HC.out.1 KK.out.kp).c0;have a1:=(aC HC.out.1 KK.out.kp).c1;have b0:=(aC HC.out.2 KK.out.kp).c0;have b1:=(aC HC.out.2 KK.out.kp).c1;go_wp2_with fail
 go_region_held3 (fun w'=>w'.cell? ⟨a,0,none⟩=some (.pointer (some ⟨pa,0,none⟩))∧w'.cell? ⟨a+1,0,none⟩=some (.pointer (some ⟨pb,0,none⟩))∧w'.cell? ⟨pa,0,none⟩=some (.int .i64 x1)∧w'.cell? ⟨pa,1,none⟩=some (.int .i64 x2)∧w'.cell? ⟨pb,0,none⟩=some (.int .i64 y1)∧w'.cell? ⟨pb,1,none⟩=some (.int .i64 y2)) (go_keep)
  (first|(go_at_call 140;((with_reducible refine (lM mo c m (y1,y2) (x1,x2) _ KK.out.drew.mt HN.out.2.2.1 (by have:=HN.out.2.2.2.1;omega)).mono ?_);rintro e w2 ⟨rfl,hm2,hb2⟩;rw [HV.out];have F2:=hdz ((HF.out.stay ((Below.refl _ _).drew)).turn hb2 KK.out.drew.mt);have K2:=hdz (KK.out.drew.turn hm2 hb2 ax);have g0:=F2.out.h0;have g1:=F2.out.o0;have c0:=(aC HC.out.1 K2.out.kp).c0;have c1:=(aC HC.out.1 K2.out.kp).c1;have d0:=(aC HC.out.2 K2.out.kp).c0;have d1:=(aC HC.out.2 K2.out.kp).c1;have z2:=F2.out.zl;have l2:=F2.out.l0;clear hm2 hb2)))
 clear f0 f1 a0 a1 b0 b1 c0 c1 d0 d1;go_wp2_with fail
 have F3:=F2;have K3:=K2;obtain ⟨w3,hw3⟩:=aU (w2);clear g0 g1 z2 l2;subst hw3;((with_reducible refine (rz mo _).mono ?_);rintro e w4 ⟨rfl,hg4,hb4⟩);have F4:=hdz (F3.out.stay hb4);have K4:=hdz (K3.out.stay hb4);have G4:=hdz hg4;obtain ⟨g,hg⟩:=aU (w3.heap.size);rw [←hg]at G4 ⊢;clear hg hg4 hb4;have s6:=aC HC.out.1 K4.out.kp;have c0:=s6.c0;have c1:=s6.c1;have c2:=s6.c2;have c3:=s6.c3;have l4:=F4.out.l0;clear s6;go_wp2_with fail
 have HQ:=hdz (show r.size+(Lh.node (y1,y2) l' r').size<n∧0≤c+1∧c+1+(r.size+(Lh.node (y1,y2) l' r').size:Nat)<1152921504606846976∧0≤m∧m+(r.size+(Lh.node (y1,y2) l' r').size:Nat)<1152921504606846976∧aQ r (Lh.node (y1,y2) l' r')≤r.size+(Lh.node (y1,y2) l' r').size∧l.size+(r.size+(Lh.node (y1,y2) l' r').size)<1073741823 by
  obtain ⟨q1,q2,q3,q4,q5,q6, -⟩:=HN.out;have q7:=kF r (Lh.node (y1,y2) l' r');simp only [Lh.size]at q2 q7 ⊢;omega)
 have n1:¬pa=a+1+1:=by rw [HA.out];have:=HN.out.2.2.2.2.2.2;omega
 have n2:¬a+1+1=pa:=by rw [HA.out];have:=HN.out.2.2.2.2.2.2;omega
 have n3:¬a+3=a+1+1:=by omega
 have n4:¬a+1+1=a+3:=by omega
 go_region_held3 (fun w'=>w'.cell? ⟨pa,0,none⟩=some (.int .i64 x1)∧w'.cell? ⟨pa,1,none⟩=some (.int .i64 x2)∧w'.cell? ⟨pa,2,none⟩=some (.pointer lp)∧w'.cell? ⟨pa,3,none⟩=some (.pointer rp)∧w'.cell? ⟨a+3,0,none⟩=some (.pointer (some ⟨pb,0,none⟩))) (go_keep)
  (first|(go_at_call 136;((with_reducible refine (xH mo _ _ (x1,x2) l (bI r (Lh.node (y1,y2) l' r')) lp p5 g _ (KG.out) K5.out.mt (by have:=HQ.out;omega) (by have:=HQ.out;omega) (HL.out.1.kp K5.out.kp) T5.out (by rw [d9];exact HQ.out.2.2.2.2.2.2)).mono ?_);rintro e w6 ⟨p6,rfl,Io,Iy,hb6⟩;have F6:=hdz (F5.out.turn hb6 K5.out.mt);have K6:=hdz (K5.out.turn Iy hb6 ax);have T6:=hdz Io;have s6:=aC HC.out.1 K6.out.kp;have e0:=s6.c0;have e1:=s6.c1;have e2:=s6.c2;have e3:=s6.c3;have l6:=F6.out.l0;have r6:=F6.out.r0;have z6:=F6.out.zr;clear Io Iy hb6 s6))|(go_at_call 115;((with_reducible refine (HI.out r (Lh.node (y1,y2) l' r') HQ.out.1 (c+1) m rp (some ⟨pb,0,none⟩) _ K4.out.drew.mt HQ.out.2.1 HQ.out.2.2.1 HQ.out.2.2.2.1 HQ.out.2.2.2.2.1 (HL.out.2.1.kp K4.out.drew.kp) (HB0.out.kp K4.out.drew.kp)).mono ?_);rintro e w5 ⟨p5,rfl,Ip,Im,hb5⟩;have F5:=hdz ((F4.out.stay ((Below.refl _ _).drew)).turn hb5 K4.out.drew.mt);have K5:=hdz (K4.out.drew.turn Im hb5 ax);have KG:=hdz (show Kept w5 mo g from (hb5.row K4.out.drew.mt (show w4.drew.heap[g]?=_ from G4.out) (by decide)));have T5:=hdz Ip;have s6:=aC HC.out.1 K5.out.kp;have k0:=s6.c0;have k1:=s6.c1;have k2:=s6.c2;have k3:=s6.c3;have l5:=F5.out.l0;clear Ip Im hb5 s6)))
 go_wp2_with fail
 have hk:=(K6.out.put F6.out.r (by unfold au;decide) (by decide) (by rw [←HA.out];omega) 0 (.pointer p6));refine bodyPost_ret (v:=hp p6) (by simp [results,Tryz.results115,go_sem,r6]) rfl ⟨_,rfl,T6.out.kp (bO.set F6.out.r (by unfold au;decide) 0 _),?_,hk.bt⟩;have e1:c+((1+aQ r (Lh.node (y1,y2) l' r'):Nat):Int)=c+1+aQ r (Lh.node (y1,y2) l' r'):=by omega
 have e2:m+((1+aQ r (Lh.node (y1,y2) l' r'):Nat):Int)=m+aQ r (Lh.node (y1,y2) l' r')+1:=by omega
 rw [e1,e2];exact hk.mt
theorem BU (mo:Option Nat)(n:Nat)(hn:n≤268435456):bQ mo n:=by
 induction n with
 | zero=>intro a b h;omega
 | succ n ih =>
  intro a b hs c m p q w hm h0 h1 h2 h3 ha hb;by_cases hlt:a.size+b.size<n
  ·exact ih (by omega) a b hlt c m p q w hm h0 h1 h2 h3 ha hb
  ·cases a with
   | nil =>
    obtain rfl:=ha;rw [jA,rF];exact (ja mo q w).mono fun e w' ⟨he,hb'⟩=>⟨q,he,hb.stay hb',by simpa using hm.stay hb',Bt.aV hb'⟩
   | node x l r =>
    obtain ⟨pa,lp,rp,rfl,hah⟩:=ha
    cases b with
    | nil =>
     obtain rfl:=hb;rw [fT,vM];exact (ig mo pa w).mono fun e w' ⟨he,hb'⟩=>⟨_,he,aA.stay ⟨pa,lp,rp,rfl,hah⟩ hb',by simpa using hm.stay hb',Bt.aV hb'⟩
    | node y l' r' =>
     obtain ⟨pb,lp',rp',rfl,Iz⟩:=hb;obtain ⟨x1,x2⟩:=x;obtain ⟨y1,y2⟩:=y;have hsn:(Lh.node (x1,x2) l r).size+(Lh.node (y1,y2) l' r').size=n:=by omega
     rw [hsn]at h1 h3
     cases hv:dH (y1,y2) (x1,x2) with
     | true=>exact vC mo n (ih (by omega)) (by omega) x1 x2 y1 y2 l r l' r' hsn hv c m pa pb w hm h0 h1 h2 h3 ⟨pa,lp,rp,rfl,hah⟩ ⟨pb,lp',rp',rfl,Iz⟩
     | false=>exact sO mo n (ih (by omega)) (by omega) x1 x2 y1 y2 l r l' r' hsn hv c m pa pb w hm h0 h1 h2 h3 ⟨pa,lp,rp,rfl,hah⟩ ⟨pb,lp',rp',rfl,Iz⟩
theorem eT (mo:Option Nat)(a b:Lh)(c m:Int)(p q:Option Addr)(w:World)(hs:a.size+b.size<268435456)(hm:aW w mo c m)(h0:0≤c)(h1:c<576460752303423488)(h2:0≤m)(h3:m<576460752303423488)
  (ha:aA w a p) (hb:aA w b q):Calls Tryz.prog 115 #[hp p,aF mo,hp q] w (bU mo (c+aQ a b) (m+aQ a b) (bI a b) w) :=
 BU mo 268435456 (Nat.le_refl _) a b hs c m p q w hm h0 (by omega) h2 (by omega) ha hb
end Go.Proofs.YtmeodbjlmjpnbaaGreat.Le
namespace Go.Proofs.YtmeodbjlmjpnbaaGreat.Le
open Go.Sort Go.RowKit
theorem Kept.drew {w:World}{mo:Option Nat}{g:Nat}(h:Kept w mo g):Kept w.drew mo g:=h
theorem aA.none (w:World):aA w .nil Option.none:=rfl
theorem Gg (x:Int×Int):DU x .nil .nil=.one x:=rfl
structure Fi (W:World)(a:Nat)(p:Option Addr)(x:Int×Int):Prop where
 h:W.heap[a]?=some (.cells #[.pointer p] 101 (0,0))
 e:W.heap[a+1]?=some (.cells #[.int .i64 x.1,.int .i64 x.2] 29 (0,0))
 r:W.heap[a+2]?=some (.cells #[.pointer none] 101 (0,0))
section
variable {W W':World}{a:Nat}{p:Option Addr}{x:Int×Int}{mo:Option Nat}{c m:Int}
theorem Fi.new (w:World)(p:Option Addr)(x:Int×Int):Fi (((w.alloc (.cells #[.pointer p] 101)).alloc (.cells #[.int .i64 x.1,.int .i64 x.2] 29)).alloc (.cells #[.pointer none] 101)) w.heap.size p x:=by
 refine ⟨?_,?_,?_⟩
 ·rw [alloc_old _ (by simp only [World.size_alloc];omega),alloc_old _ (by simp only [World.size_alloc];omega)];exact aJ rfl
 ·rw [alloc_old _ (by simp only [World.size_alloc];omega)];exact aJ (by simp)
 ·exact aJ (by simp)
theorem Fi.turn (h:Fi W a p x)(hb:Bt mo W W')(hm:aW W mo c m):Fi W' a p x :=
 ⟨hb.row hm h.h (by decide),hb.row hm h.e (by decide),hb.row hm h.r (by decide)⟩
theorem Fi.stay (h:Fi W a p x)(hb:Below W.heap.size W W'):Fi W' a p x :=
 ⟨(hb.block _ (lt_of_heap h.h)).trans h.h,(hb.block _ (lt_of_heap h.e)).trans h.e,(hb.block _ (lt_of_heap h.r)).trans h.r⟩
theorem Fi.h0 (h:Fi W a p x):W.cell? ⟨a,0,none⟩=some (.pointer p):=by simp [World.cell?,h.h]
theorem Fi.e0 (h:Fi W a p x):W.cell? ⟨a+1,0,none⟩=some (.int .i64 x.1):=by simp [World.cell?,h.e]
theorem Fi.e1 (h:Fi W a p x):W.cell? ⟨a+1,1,none⟩=some (.int .i64 x.2):=by simp [World.cell?,h.e]
theorem Fi.r0 (h:Fi W a p x):W.cell? ⟨a+2,0,none⟩=some (.pointer none):=by simp [World.cell?,h.r]
theorem Fi.zr (h:Fi W a p x):W.frozen? ⟨a+2,0,none⟩=false:=by simp [World.frozen?,h.r]
end
theorem di (mo:Option Nat)(c m:Int)(h:Lh)(x:Int×Int)(p:Option Addr)(w:World)(hs:h.size<134217728)(hm:aW w mo c m)(h0:0≤c)(h1:c<576460752303423488)(h2:0≤m)(h3:m<576460752303423487)
  (hh:aA w h p):Calls Tryz.prog 90 #[hp p,aF mo,el x] w (bU mo (c+aQ (.one x) h) (m+1+aQ (.one x) h) (h.insert x) w):=by
 obtain ⟨x1,x2⟩:=x;have F1:Fi (((w.alloc (.cells #[.pointer p] 101)).alloc (.cells #[.int .i64 x1,.int .i64 x2] 29)).alloc (.cells #[.pointer none] 101)) w.heap.size p (x1,x2):=Fi.new w p (x1,x2)
 have hb1:Below w.heap.size w (((w.alloc (.cells #[.pointer p] 101)).alloc (.cells #[.int .i64 x1,.int .i64 x2] 29)).alloc (.cells #[.pointer none] 101)) :=
  ((bG _).alloc (by simp) _).alloc (by simp only [World.size_alloc];omega) _
 have K1:dL au mo w c m (((w.alloc (.cells #[.pointer p] 101)).alloc (.cells #[.int .i64 x1,.int .i64 x2] 29)).alloc (.cells #[.pointer none] 101)):=(dL.refl hm).stay hb1;have HH:=hdz hh;have HN:=hdz (af hs (af h0 (af h1 (af h2 h3))));have HF:=hdz F1;have KK:=hdz K1;clear hh hs h0 h1 h2 h3 F1 K1 hb1 hm;go_enter Tryz.func90,Tryz.ntmps90
 go_wp2_with fail
 generalize ((w.alloc (.cells #[.pointer p] 101)).alloc (.cells #[.int .i64 x1,.int .i64 x2] 29)).alloc (.cells #[.pointer none] 101)=w1 at *;obtain ⟨a,ha⟩:=aU (w.heap.size);rw [←ha]at HF ⊢;have HA:=hdz ha;clear ha;((with_reducible refine (rz mo _).mono ?_);rintro e w4 ⟨rfl,hg4,hb4⟩);have F4:=hdz (HF.out.stay hb4);have K4:=hdz (KK.out.stay hb4);have G4:=hdz hg4;obtain ⟨g,hg⟩:=aU (w1.heap.size);rw [←hg]at G4 ⊢;clear hg hg4 hb4;have f0:=F4.out.h0;have f1:=F4.out.e0;have f2:=F4.out.e1;go_wp2_with fail
 have n1:¬a=a+1+1:=by omega
 have n2:¬a+1+1=a:=by omega
 go_region_held3 (fun w'=>w'.cell? ⟨a,0,none⟩=some (.pointer p)∧w'.cell? ⟨a+1,0,none⟩=some (.int .i64 x1)∧w'.cell? ⟨a+1,1,none⟩=some (.int .i64 x2)) (go_keep)
  (first|(go_at_call 115;((with_reducible refine (eT mo (.one (x1,x2)) h c (m+1) p5 p _ (by rw [iL];have:=HN.out;omega) K5.out.mt HN.out.2.1 HN.out.2.2.1 (by have:=HN.out;omega) (by have:=HN.out;omega) T5.out (HH.out.kp K5.out.kp)).mono ?_);rintro e w6 ⟨p6,rfl,Io,Iy,hb6⟩;have F6:=hdz (F5.out.turn hb6 K5.out.mt);have K6:=hdz (K5.out.turn Iy hb6 ax);have T6:=hdz Io;have k0:=F6.out.h0;have k1:=F6.out.e0;have k2:=F6.out.e1;have r6:=F6.out.r0;have z6:=F6.out.zr;clear Io Iy hb6))|(go_at_call 136;((with_reducible refine (xH mo c m (x1,x2) .nil .nil none none g _ (Kept.drew G4.out) K4.out.drew.mt HN.out.2.2.2.1 (by have:=HN.out;omega) (aA.none _) (aA.none _) (by decide)).mono ?_);rintro e w5 ⟨p5,rfl,Ip,Im,hb5⟩;have F5:=hdz ((F4.out.stay ((Below.refl _ _).drew)).turn hb5 K4.out.drew.mt);have K5:=hdz (K4.out.drew.turn Im hb5 ax);have T5:=hdz (show aA w5 (.one (x1,x2)) p5 from Gg (x1,x2)▸Ip);have g0:=F5.out.h0;have g1:=F5.out.e0;have g2:=F5.out.e1;clear Ip Im hb5)))
 go_wp2_with fail
 have hk:=(K6.out.put F6.out.r (by unfold au;decide) (by decide) (by rw [←HA.out];omega) 0 (.pointer p6));exact bodyPost_ret (v:=hp p6) (by simp [results,Tryz.results90,go_sem,r6]) rfl ⟨_,rfl,T6.out.kp (bO.set F6.out.r (by unfold au;decide) 0 _),hk.mt,hk.bt⟩
def gP (mo:Option Nat)(c m:Int)(t:Lh)(is:Bool)(w:World)(e:Ending)(w':World):Prop:=∃p,e=.returned (.tuple #[hp p,.bool is])∧aA w' t p∧aW w' mo c m∧Bt mo w w'
def Lh.some:Lh→Bool
 | .nil=>false
 | .node _ _ _=>true
theorem jb (mo:Option Nat)(c m:Int)(h:Lh)(p:Option Addr)(w:World)(hs:h.size<268435456)(hm:aW w mo c m)(h0:0≤c)(h1:c<576460752303423488)(h2:0≤m)(h3:m<576460752303423487)
  (hh:aA w h p):Calls Tryz.prog 356 #[hp p,aF mo] w (gP mo (c+h.oK) (m+h.oK) h.pop h.some w):=by
 cases h with
 | nil =>
  obtain rfl:=hh;have hb1:Below w.heap.size w ((w.alloc (.cells #[.pointer none] 101)).alloc (.cells #[.pointer none] 101)):=(bG _).alloc (by simp) _;have KK:=hdz (hm.stay hb1);have HB:=hdz (Bt.aV (mo:=mo) hb1);clear hm hb1 hs h0 h1 h2 h3;go_enter Tryz.func356,Tryz.ntmps356
  go_wp2_with fail
  exact bodyPost_ret (v := .tuple #[hp none,.bool false]) (by simp [results,Tryz.results356,go_sem]) rfl ⟨_,rfl,rfl,by simpa [Lh.oK] using KK.out,HB.out⟩
 | node x l r =>
  obtain ⟨b,lp,rp,rfl,Iz,hl,hr⟩:=hh;have K1:dL au mo w c m ((w.alloc (.cells #[.pointer (some ⟨b,0,none⟩)] 101)).alloc (.cells #[.pointer none] 101)):=((dL.refl hm).alloc _).alloc _
  have e1:((w.alloc (.cells #[.pointer (some ⟨b,0,none⟩)] 101)).alloc (.cells #[.pointer none] 101)).heap[w.heap.size]?=some (.cells #[.pointer (some ⟨b,0,none⟩)] 101 (0,0)):=by
   rw [alloc_old _ (by simp only [World.size_alloc];omega)];exact aJ rfl
  have e2:((w.alloc (.cells #[.pointer (some ⟨b,0,none⟩)] 101)).alloc (.cells #[.pointer none] 101)).heap[w.heap.size+1]?=some (.cells #[.pointer none] 101 (0,0)):=aJ (by simp);have HL:=hdz (af Iz (af hl hr));have HN:=hdz (af hs (af h0 (af h1 (af h2 h3))));have HE:=hdz (af e1 e2);have KK:=hdz K1;have HLT:=hdz (lt_of_heap Iz);clear Iz hl hr hs h0 h1 h2 h3 K1 hm e1 e2;go_enter Tryz.func356,Tryz.ntmps356
  go_wp2_with fail
  generalize (w.alloc (.cells #[.pointer (some ⟨b,0,none⟩)] 101)).alloc (.cells #[.pointer none] 101)=w1 at *;obtain ⟨a,ha⟩:=aU (w.heap.size);rw [←ha]at HE ⊢;have HA:=hdz ha;clear ha;have f0:w1.cell? ⟨a,0,none⟩=some (.pointer (some ⟨b,0,none⟩)):=by have:=HE.out.1;simp [World.cell?,this]
  have c2:=(aC HL.out.1 KK.out.kp).c2;have c3:=(aC HL.out.1 KK.out.kp).c3;have n1:¬b=a+1:=by rw [HA.out];have:=HLT.out;omega
  have n2:¬a+1=b:=by rw [HA.out];have:=HLT.out;omega
  go_region_held3 (fun w'=>w'.cell? ⟨a,0,none⟩=some (.pointer (some ⟨b,0,none⟩))∧w'.cell? ⟨b,2,none⟩=some (.pointer lp)∧w'.cell? ⟨b,3,none⟩=some (.pointer rp)) (go_keep)
   (first|(go_at_call 115;((with_reducible refine (eT mo l r c m lp rp _ (by have:=HN.out.1;simp only [Lh.size]at this;omega) KK.out.drew.mt HN.out.2.1 HN.out.2.2.1 HN.out.2.2.2.1 (by have:=HN.out;omega) (HL.out.2.1.kp KK.out.drew.kp) (HL.out.2.2.kp KK.out.drew.kp)).mono ?_);rintro e w6 ⟨p6,rfl,Io,Iy,hb6⟩;have E6:=hdz (hb6.row KK.out.drew.mt (show w1.drew.heap[a]?=_ from HE.out.1) (by decide));have R6:=hdz (hb6.row KK.out.drew.mt (show w1.drew.heap[a+1]?=_ from HE.out.2) (by decide));have K6:=hdz (KK.out.drew.turn Iy hb6 ax);have T6:=hdz Io;have k0:w6.cell? ⟨a,0,none⟩=some (.pointer (some ⟨b,0,none⟩)):=(by have:=E6.out;simp [World.cell?,this]);have k1:=(aC HL.out.1 K6.out.kp).c2;have k2:=(aC HL.out.1 K6.out.kp).c3;have r6:w6.cell? ⟨a+1,0,none⟩=some (.pointer none):=(by have:=R6.out;simp [World.cell?,this]);have z6:w6.frozen? ⟨a+1,0,none⟩=false:=(by have:=R6.out;simp [World.frozen?,this]);clear Io Iy hb6)))
  go_wp2_with fail
  have hk:=(K6.out.put R6.out (by unfold au;decide) (by decide) (by rw [←HA.out];omega) 0 (.pointer p6));exact bodyPost_ret (v := .tuple #[hp p6,.bool true]) (by simp [results,Tryz.results356,go_sem,r6]) rfl ⟨_,rfl,T6.out.kp (bO.set R6.out (by unfold au;decide) 0 _),hk.mt,hk.bt⟩
end Go.Proofs.YtmeodbjlmjpnbaaGreat.Le
namespace Go.Proofs.YtmeodbjlmjpnbaaGreat.Le
open Go.Sort Go.RowKit
theorem nR {w:World}{q:Addr}{v:Value}(h:w.cell? q=some v)(o:Obj):(w.alloc o).cell? q=some v:=(((Below.refl w.heap.size w).alloc (Nat.le_refl _) o).cell (block_lt_of_cell h)).trans h
theorem oQ (xs:List (Int×Int))(k:Nat)(h:k<xs.length):dN .nil (xs.take (k+1))=dN .nil (xs.take k)+aQ (.one xs[k]) (fG (xs.take k)):=by
 rw [List.take_succ_eq_append_getElem h,kJ];rfl
theorem kY (xs:List (Int×Int))(k:Nat)(h:k<xs.length):fG (xs.take (k+1))=(fG (xs.take k)).insert xs[k]:=by
 rw [List.take_succ_eq_append_getElem h,lI]
theorem nC (xs:List (Int×Int))(h:xs.length<16777216):dN .nil xs<562949953421312:=by
 have h1:=nZ xs .nil;simp only [Lh.size]at h1;have h2:xs.length*(0+xs.length+1)≤16777216*16777216:=Nat.mul_le_mul (by omega) (by omega);omega
theorem kC (mo:Option Nat)(c m:Int)(A:Option Addr)(xs:List (Int×Int))(cap:Nat)(w:World)(hm:aW w mo c m)(h0:0≤c)(h1:c<288230376151711744)(h2:0≤m)(h3:m<288230376151711744)(hr:Row w A xs)(hn:xs.length<16777216)
  (hne:∀b,mo=some b → ∀q,A=some q→q.block≠b) :
  Calls Tryz.prog 41 #[aF mo,.slice A xs.length cap] w (bU mo (c+dN .nil xs) (m+(xs.length:Nat)+dN .nil xs) (fG xs) w):=by
 have K1:dL au mo w c m ((w.alloc (.cells #[.pointer none] 101)).alloc (.cells #[.pointer none] 101)):=((dL.refl hm).alloc _).alloc _
 have e1:((w.alloc (.cells #[.pointer none] 101)).alloc (.cells #[.pointer none] 101)).heap[w.heap.size]?=some (.cells #[.pointer none] 101 (0,0)):=by
  rw [alloc_old _ (by simp only [World.size_alloc];omega)];exact aJ rfl
 have e2:((w.alloc (.cells #[.pointer none] 101)).alloc (.cells #[.pointer none] 101)).heap[w.heap.size+1]?=some (.cells #[.pointer none] 101 (0,0)):=aJ (by simp);have HR:=hdz (af hr hne);have HN:=hdz (af h0 (af h1 (af h2 h3)));have HE:=hdz (af e1 e2);have KK:=hdz K1;obtain ⟨n,hnn⟩:=aU (xs.length);rw [←hnn]at hn ⊢;have HX:=hdz hnn;clear hr hne h0 h1 h2 h3 K1 hm e1 e2 hnn;go_enter Tryz.func41,Tryz.ntmps41
 go_wp2_with fail
 generalize (w.alloc (.cells #[.pointer none] 101)).alloc (.cells #[.pointer none] 101)=w1 at *;obtain ⟨a,ha⟩:=aU (w.heap.size);rw [←ha]at HE ⊢;have HA:=hdz ha;clear ha;go_loopg [10] n (fun k i wr => ∃(j:Nat) (p:Option Addr),i=.int .i64 (j:Int)∧j+k=n∧wr.heap[a]?=some (.cells #[.pointer none] 101 (0,0))∧wr.heap[a+1]?=some (.cells #[.pointer p] 101 (0,0))∧aA wr (fG (xs.take j)) p∧dL au mo w (c+dN .nil (xs.take j)) (m+(j:Nat)+dN .nil (xs.take j)) wr)
 case atStart=>exact ⟨0,none,rfl,by omega,HE.out.1,HE.out.2,rfl,by simpa [dN] using KK.out⟩
 case round =>
  obtain ⟨j,p,rfl,hj,hra,hrb,ht,hk⟩:=hrel;by_cases hlt:j<n
  ·have hjx:j<xs.length:=by rw [←HX.out];exact hlt
   obtain ⟨b,o,rfl,hc⟩:=HR.out.1 (by omega);have hx:=qm hc j hjx;have hne:=fun bb (eb:mo=some bb)=>HR.out.2 bb eb _ rfl;have x0:=hk.bt.cell hx.1 hne;have x1:=hk.bt.cell hx.2 hne;have hp:=nC (xs.take j) (by rw [List.length_take];omega);have hsz:(fG (xs.take j)).size=j:=by rw [kW,List.length_take];omega
   have eP:=oQ xs j hjx;have eO:=kY xs j hjx;generalize xs[j]=x at *;obtain ⟨y1,y2⟩:=x;have q1:(j:Int)<(n:Int):=by omega
   have q2:(0:Int)≤(j:Int):=by omega
   have h1c:wr.cell? ⟨a+1,0,none⟩=some (.pointer p):=by simp [World.cell?,hrb]
   have h2c:(wr.alloc (.cells #[.int .i64 y1,.int .i64 y2] 29)).cell? ⟨a+1,0,none⟩=some (.pointer p):=nR h1c _;have X:=hdz (af hra (af hrb (af ht (af hk (af eP (af eO (af hp (af hsz hj))))))));clear hra hrb ht hk eP eO hp hsz hj hc hx hne hjx;go_wp2_with fail
   clear h1c h2c x0 x1;((with_reducible refine (di mo _ _ (fG (xs.take j)) (y1,y2) p _ (by rw [X.out.2.2.2.2.2.2.2.1];omega) (X.out.2.2.2.1.alloc _).mt (by have:=HN.out;omega) (by have:=HN.out;have:=X.out.2.2.2.2.2.2.1;omega) (by have:=HN.out;omega) (by have:=HN.out;have:=X.out.2.2.2.2.2.2.1;omega) (X.out.2.2.1.stay (bG _))).mono ?_);rintro e w2 ⟨p2,rfl,ht2,hm2,hb2⟩);obtain ⟨hra,hrb,ht,hk,eP,eO,hp,hsz,hj⟩:=X.out;have hk2:=(hk.alloc (.cells #[.int .i64 y1,.int .i64 y2] 29)).turn hm2 hb2 ax;have ra2:=hb2.row (hk.alloc _).mt ((alloc_old (.cells #[.int .i64 y1,.int .i64 y2] 29) (lt_of_heap hra)).trans hra) (by decide);have rb2:=hb2.row (hk.alloc _).mt ((alloc_old (.cells #[.int .i64 y1,.int .i64 y2] 29) (lt_of_heap hrb)).trans hrb) (by decide);have e1:c+((dN .nil (xs.take (j+1)):Nat):Int)=c+(dN .nil (xs.take j):Nat)+(aQ (.one (y1,y2)) (fG (xs.take j)):Nat):=by rw [eP];omega
   have e2:m+((j+1:Nat):Int)+(dN .nil (xs.take (j+1)):Nat)=m+(j:Nat)+(dN .nil (xs.take j):Nat)+1+(aQ (.one (y1,y2)) (fG (xs.take j)):Nat):=by rw [eP];omega
   rw [←e1,←e2]at hk2;rw [←eO]at ht2;have z2:w2.frozen? ⟨a+1,0,none⟩=false:=by simp [World.frozen?,rb2]
   have r2:w2.cell? ⟨a+1,0,none⟩=some (.pointer p):=by simp [World.cell?,rb2]
   have Y:=hdz (af (show (w2.setCell ⟨a+1,0,none⟩ (.pointer p2)).heap[a]?=_ from (aH _ _ (by omega)).trans ra2) (af (show (w2.setCell ⟨a+1,0,none⟩ (.pointer p2)).heap[a+1]?=some (.cells #[.pointer p2] 101 (0,0)) from heap_put (j:=0) rb2 (.pointer p2)) (af (ht2.kp (bO.set rb2 (by unfold au;decide) 0 (.pointer p2))) (hk2.put rb2 (by unfold au;decide) (by decide) (by rw [←HA.out];omega) 0 (.pointer p2)))));clear hra hrb ht hk eP eO hp hsz hk2 ra2 rb2 e1 e2 ht2 hm2 hb2 X;go_wp2_with fail
   go_roundg (n - 1 - j)
   case measure=>omega
   case rel=>exact ⟨j+1,p2,by congr 1,by omega,Y.out.1,Y.out.2.1,Y.out.2.2.1,Y.out.2.2.2⟩
  ·have hjn:j=n:=by omega
   subst hjn;rw [HX.out,List.take_length]at ht hk;rw [←HX.out]at hk;have h1c:wr.cell? ⟨a+1,0,none⟩=some (.pointer p):=by simp [World.cell?,hrb]
   have r6:wr.cell? ⟨a,0,none⟩=some (.pointer none):=by simp [World.cell?,hra]
   have z6:wr.frozen? ⟨a,0,none⟩=false:=by simp [World.frozen?,hra]
   have hk2:=hk.put hra (by unfold au;decide) (by decide) (by rw [←HA.out];omega) 0 (.pointer p);have X:=hdz (af (ht.kp (bO.set hra (by unfold au;decide) 0 (.pointer p))) hk2);clear hra hrb ht hk hk2 hlt hj;go_wp2_with fail
   exact bodyPost_ret (v:=hp p) (by simp [results,Tryz.results41,go_sem,r6]) rfl ⟨_,rfl,X.out.1,X.out.2.mt,X.out.2.bt⟩
end Go.Proofs.YtmeodbjlmjpnbaaGreat.Le
namespace Go.Proofs.YtmeodbjlmjpnbaaGreat.Le
open Go.Sort Go.RowKit
theorem ic {h:Lh}(hg:h.good):h.min=(hd (dw h.all),decide (0<(dw h.all).length)):=by
 cases h with
 | nil=>rw [show (Lh.nil).all=[] from rfl,kr];rfl
 | node x l r=>rw [jK hg.ok];rfl
theorem jM {h:Lh}(hg:h.good):h.some=decide (0<(dw h.all).length):=(show h.some=h.min.2 by cases h<;>rfl).trans (congrArg Prod.snd (ic hg))
theorem dJ (h:Lh):(dw h.all).length=h.size:=by rw [kG,Lh.aD]
theorem wN (h:Lh)(q:Option Addr)(w:World)(hg:h.good)(hh:aA w h q) :
  Calls Tryz.prog 216 #[.agg #[.pointer q],.pointer none] w fun e w'=>e=.returned (.tuple #[el (hd (dw h.all)),.bool (decide (0<(dw h.all).length))])∧Below w.heap.size w w':=by
 have hm:∀(k:Nat) (w:World),(method (k+1) 101 (.agg #[.pointer q]) "Min").run Tryz.prog w=.ok (355,.agg #[.pointer q]) w:=fun _ _=>by kernel_rfl
 have hb1:Below w.heap.size w ((w.alloc (.cells #[.pointer q] 177)).alloc (.cells #[.int .i64 0,.int .i64 0] 29)):=(bG _).alloc (by simp) _
 have hv:aB ((w.alloc (.cells #[.pointer q] 177)).alloc (.cells #[.int .i64 0,.int .i64 0] 29)) (w.heap.size+1) 29 (.int .i64 0) (.int .i64 0):=by
  have:=aB.new (w.alloc (.cells #[.pointer q] 177)) 29 (.int .i64 0) (.int .i64 0);simpa only [World.size_alloc] using this
 have H:=hdz (af (hh.stay hb1) (af hb1 hv));obtain ⟨x,hx⟩:=aU (h.min);obtain ⟨⟨x1,x2⟩,z⟩:=x;have hx2:=hx.trans (ic hg);rw [show hd (dw h.all)=(x1,x2) from (congrArg Prod.fst hx2).symm,show decide (0<(dw h.all).length)=z from (congrArg Prod.snd hx2).symm];have HM:fH h=.tuple #[.agg #[.int .i64 x1,.int .i64 x2],.bool z]:=by unfold fH;rw [←hx]
 have HN:=hdz HM;clear hh hb1 hg hx hx2 HM hv;go_enter Tryz.func216,Tryz.ntmps216
 go_wp2_with fail
 refine (iX h q (.pointer none) _ H.out.1).mono ?_;rintro e w1 ⟨he,hb⟩;rw [HN.out]at he;subst he;have hv:=H.out.2.2.stay hb;have c0:=hv.c0;have c1:=hv.c1;have z0:=hv.z0;have z1:=hv.z1;have hs:=hv.set (.int .i64 x1) (.int .i64 x2);have k0:=hs.c0;have k1:=hs.c1;have Y:=hdz (H.out.2.1.trans (hb.mono H.out.2.1.size));clear hb hv hs;go_wp2_with fail
 refine bodyPost_ret (v := .tuple #[.agg #[.int .i64 x1,.int .i64 x2],.bool z]) (by simp [results,Tryz.results216,go_sem,k0,k1]) rfl ⟨rfl,(Y.out.setCell (by simp) _).setCell (by simp) _⟩
theorem xO (h:Lh)(q:Option Addr)(w:World)(hs:h.size<16777216)(hh:aA w h q) :
  Calls Tryz.prog 217 #[.agg #[.pointer q],.pointer none] w fun e w' => ∃q':Option Addr,e=.returned (.tuple #[.iface 177 (.agg #[.pointer q']),.bool h.some])∧aA w' h.pop q'∧Below w.heap.size w w':=by
 have hm:∀(k:Nat) (w:World),(method (k+1) 101 (.agg #[.pointer q]) "Pop").run Tryz.prog w=.ok (356,.agg #[.pointer q]) w:=fun _ _=>by kernel_rfl
 have hb1:Below w.heap.size w (w.alloc (.cells #[.pointer q] 177)):=bG _;have H:=hdz (af (hh.stay hb1) hb1);have HS:=hdz hs;obtain ⟨z,hz⟩:=aU (h.some);rw [←hz];have HZ:=hdz hz;clear hh hb1 hs hz;go_enter Tryz.func217,Tryz.ntmps217
 go_wp2_with fail
 refine (jb none 0 0 h q _ (by have:=HS.out;omega) trivial (by decide) (by decide) (by decide) (by decide) H.out.1).mono ?_;rintro e w1 ⟨q',he,ht, -,hb⟩;rw [←HZ.out]at he;subst he;have Y:=hdz (af ht trivial);have hT:=H.out.2.trans (hb.gK.mono H.out.2.size);have HT:=hdz hT;clear ht hb hT;go_wp2_with fail
 refine bodyPost_ret (v := .tuple #[.iface 177 (.agg #[.pointer q']),.bool z]) (by simp [results,Tryz.results217,go_sem]) rfl ⟨q',rfl,Y.out.1.stay (bG _),HT.out.alloc HT.out.size _⟩
theorem qV (h:Lh)(q:Option Addr)(w:World)(hh:aA w h q) :
  Calls Tryz.prog 219 #[.agg #[.pointer q]] w fun e w'=>e=.returned (.int .i64 (h.size:Nat))∧Below w.heap.size w w':=by
 have hm:∀(k:Nat) (w:World),(method (k+1) 101 (.agg #[.pointer q]) "Size").run Tryz.prog w=.ok (139,.agg #[.pointer q]) w:=fun _ _=>by kernel_rfl
 have hb1:Below w.heap.size w (w.alloc (.cells #[.pointer q] 177)):=bG _;have H:=hdz (af (hh.stay hb1) hb1);obtain ⟨z,hz⟩:∃z:Int,z=(h.size:Nat):=⟨_,rfl⟩;rw [←hz];have HZ:=hdz hz;clear hh hb1 hz;go_enter Tryz.func219,Tryz.ntmps219
 go_wp2_with fail
 refine (eF h q _ H.out.1).mono ?_;rintro e w1 ⟨he,hb⟩;rw [←HZ.out]at he;subst he;have Y:=hdz (H.out.2.trans (hb.mono H.out.2.size));clear hb;go_wp2_with fail
 refine bodyPost_ret (v := .int .i64 z) (by simp [results,Tryz.results219,go_sem]) rfl ⟨rfl,Y.out⟩
theorem qM (v:Value)(w:World):Calls Tryz.prog 37 #[.agg #[.iface 177 v]] w fun e w'=>e=.returned (.int .i64 1)∧Below w.heap.size w w':=by
 have hb1:Below w.heap.size w (w.alloc (.cells #[.iface 177 v] 27)):=bG _;have h1:∀(w:World),(Instr.typeAssert (.iface 177 v) 25 177 true).run Tryz.prog w=.ok (.tuple #[v,.bool true]) w:=fun _=>by kernel_rfl
 go_enter Tryz.func37,Tryz.ntmps37
 go_wp2_with fail
 refine bodyPost_ret (v := .int .i64 1) (by simp [results,Tryz.results37,go_sem]) rfl ⟨rfl,hb1⟩
theorem EI (q:Option Addr)(w:World):Calls Tryz.prog 40 #[.agg #[.pointer q]] w fun e w'=>e=.returned (.agg #[.iface 177 (.agg #[.pointer q])])∧Below w.heap.size w w':=by
 have hb1:Below w.heap.size w ((w.alloc (.cells #[.pointer q] 101)).alloc (.cells #[.iface 177 (.agg #[.pointer q])] 27)):=(bG _).alloc (by simp) _;go_enter Tryz.func40,Tryz.ntmps40
 go_wp2_with fail
 refine bodyPost_ret (v := .agg #[.iface 177 (.agg #[.pointer q])]) (by simp [results,Tryz.results40,go_sem]) rfl ⟨rfl,hb1⟩
theorem ET (A:Option Addr)(xs:List (Int×Int))(cap:Nat)(w:World)(hr:Row w A xs)(hn:xs.length<16777216) :
  Calls Tryz.prog 18 #[.pointer none,.int .i64 1,.slice A xs.length cap] w fun e w' => ∃q':Option Addr,e=.returned (.tuple #[.agg #[.iface 177 (.agg #[.pointer q'])],.int .i64 0])∧aA w' (fG xs) q'∧Below w.heap.size w w':=by
 have hb1:Below w.heap.size w (w.alloc (.cells #[.nilIface] 27)):=bG _;have H:=hdz (af (hr.below hb1) hb1);obtain ⟨L,hL⟩:=aU (xs.length);have HL:=hdz (af hL (hL▸hn:L<16777216));rw [←hL];clear hr hb1 hL hn;go_enter Tryz.func18,Tryz.ntmps18
 go_wp2_with fail
 have hL:=HL.out.1;subst hL;refine (kC none 0 0 A xs cap _ trivial (by decide) (by decide) (by decide) (by decide) H.out.1 HL.out.2 (fun _ e=>by cases e)).mono ?_;rintro e w1 ⟨q',rfl,ht, -,hb⟩;have hB:=hb.gK;have hF:w1.heap[w.heap.size]?=some (.cells #[.nilIface] 27 (0,0)):=(hB.block _ (by simp)).trans (heap_alloc_new w _);have Y:=hdz (af ht (af (H.out.2.trans (hB.mono H.out.2.size)) hF));clear hB hF;clear ht hb;go_wp2_with fail
 refine (EI q' _).mono ?_;rintro e w2 ⟨rfl,hb2⟩;have hF:=(hb2.block _ (lt_of_heap Y.out.2.2)).trans Y.out.2.2;have k0:=one_cell hF;have z0:=iQ hF;have Z:=hdz (af (Y.out.1.stay hb2) (af (Y.out.2.1.trans (hb2.mono Y.out.2.1.size)) hF));clear hb2 hF;have k1:=one_cell (gD Z.out.2.2 (.iface 177 (.agg #[.pointer q'])));go_wp2_with fail
 refine bodyPost_ret (v := .tuple #[.agg #[.iface 177 (.agg #[.pointer q'])],.int .i64 0]) (by simp [results,Tryz.results18,go_sem,k1]) rfl ⟨q',rfl,Z.out.1.kp (bO.set Z.out.2.2 (by unfold au;decide) 0 _),Z.out.2.1.setCell (Nat.le_refl _) _⟩
theorem fC {W W':World}(h:bO NH W W'):bO au W W':=fun b cs t ht=>h b cs t (by unfold au at ht;rcases ht with rfl<;>decide)
def At (W:World)(v:Value)(l:List (Int×Int)):Prop:=∃q:Option Addr,v=.agg #[.pointer q] ∧ ∃h:Lh,aA W h q∧h.good∧dw h.all=l
theorem mr:iT 1 177 214 215 216 217 219 At where
 mN:=fun _ _ _=>by kernel_rfl
 mP:=fun _ _ _=>by kernel_rfl
 mS:=fun _ _ _=>by kernel_rfl
 cN:=fun _ _=>by kernel_rfl
 cP:=fun _ _=>by kernel_rfl
 cS:=fun _ _=>by kernel_rfl
 stay:=fun ha hb=>by
  obtain ⟨q,rfl,h,hh,hg,rfl⟩:=ha;exact ⟨q,rfl,h,hh.stay hb,hg,rfl⟩
 keep:=fun ha hk hs=>by
  obtain ⟨q,rfl,h,hh,hg,rfl⟩:=ha;exact ⟨q,rfl,h,hh.kp (fC hk),hg,rfl⟩
 min:=fun v l w ha=>by
  obtain ⟨q,rfl,h,hh,hg,rfl⟩:=ha;exact wN h q w hg hh
 pop:=fun v l w ha hn=>by
  obtain ⟨q,rfl,h,hh,hg,rfl⟩:=ha;rw [dJ]at hn;exact (xO h q w hn hh).mono fun e w' ⟨q',he,ht,hb⟩=>⟨_,by rw [←jM hg];exact he,⟨q',rfl,_,ht,jE hg,kS hg.ok⟩,hb⟩
 size:=fun v l w ha=>by
  obtain ⟨q,rfl,h,hh,hg,rfl⟩:=ha;rw [dJ];exact qV h q w hh
 kind:=fun v w=>qM v w
 of:=fun A xs cap w hr hn hf=>(ET A xs cap w hr hn).mono fun e w' ⟨q',he,ht,hb⟩=>⟨_,he,⟨q',rfl,_,ht,kT hf,nD xs⟩,hb⟩
end Go.Proofs.YtmeodbjlmjpnbaaGreat.Le
