/- Plain facts, of no program: skew binomial heaps as data: trees levelled, a thing put in, two heaps melded, the least one taken out, what stands beside its root put in again: the elements, heap order, the trees' shapes and ranks, sizes, counts. No conditions. -/
import Derived.Test.YtmeodbjlmjpnbaaGreatPt
import Derived.Deep.LoopGhost
import Derived.Deep.RegionHeld3
import Derived.Deep.DrawnRows
set_option maxRecDepth 100000
set_option maxHeartbeats 4000000
namespace Go.Proofs.YtmeodbjlmjpnbaaGreat.Sk
open Go.Sort Go.RowKit
def dF:List ai→List ai
 | []=>[]
 | t::r=>dx r t
def gT:List ai→Nat
 | []=>0
 | t::r=>bg r t
def tq (x:Int×Int)(f g:ai):ai:=pE x (fu f g)
def dQ:List ai→(Int×Int)→List ai
 | f::g::r,x=>if f.rank=g.rank then tq x f g::r else bY x::f::g::r
 | h,x=>bY x::h
def eX:List ai→Nat
 | f::g::_=>if f.rank=g.rank then 2 else 0
 | _=>0
def eG:List ai→Nat
 | f::g::_=>if f.rank=g.rank then 2 else 1
 | _=>1
def Hu (l:List (Int×Int)):List ai:=l.foldl dQ []
def mX:List ai→List (Int×Int)→Nat
 | _,[]=>0
 | h,x::r=>eX h+mX (dQ h x) r
def nA:List ai→List (Int×Int)→Nat
 | _,[]=>0
 | h,x::r=>eG h+nA (dQ h x) r
def nu (a b:List ai):List ai:=aP (dF a) (dF b)
def fO (a b:List ai):Nat:=gT a+gT b+aI (dF a) (dF b)
def dB (l:List ai)(i:Nat):List (Int×Int):=match l[i]? with
 | some t=>t.bs
 | none=>[]
def cu (l:List ai)(i:Nat):List ai:=aP (aO l i) (dF (aK l i))
def dR (l:List ai)(i:Nat):Nat:=gT (aK l i)+aI (aO l i) (dF (aK l i))
def nK:List ai→List ai
 | []=>[]
 | t::r=>(dB (t::r) (ak (t::r))).foldl dQ (cu (t::r) (ak (t::r)))
def qG:List ai→Nat
 | []=>0
 | t::r=>dR (t::r) (ak (t::r))+mX (cu (t::r) (ak (t::r))) (dB (t::r) (ak (t::r)))
def qH:List ai→Nat
 | []=>0
 | t::r=>dR (t::r) (ak (t::r))+nA (cu (t::r) (ak (t::r))) (dB (t::r) (ak (t::r)))
theorem mK {f g:ai}{r:List ai}(x:Int×Int)(h:f.rank=g.rank):dQ (f::g::r) x=tq x f g::r:=by show (if f.rank=g.rank then tq x f g::r else bY x::f::g::r)=_;rw [if_pos h]
theorem mM {f g:ai}{r:List ai}(x:Int×Int)(h:f.rank≠g.rank):dQ (f::g::r) x=bY x::f::g::r:=by show (if f.rank=g.rank then tq x f g::r else bY x::f::g::r)=_;rw [if_neg h]
theorem mV (h:List ai):eX h≤2:=by
 unfold eX;split
 ·split<;>omega
 ·omega
theorem nQ (h:List ai):eG h≤2∧eX h≤eG h:=by
 match h with
 | []=>exact ⟨by decide,by decide⟩
 | [f]=>exact ⟨by simp [eG],by simp [eG,eX]⟩
 | f::g::r =>
  show (if f.rank=g.rank then 2 else 1)≤2∧(if f.rank=g.rank then 2 else 0)≤(if f.rank=g.rank then 2 else 1);split<;>exact ⟨by omega,by omega⟩
theorem zq (y:Int×Int)(t:ai):(pE y t).all.Perm (y::t.all):=by
 unfold pE;split
 ·simp only [ai.all,List.cons_append];exact List.Perm.swap _ _ _
 ·exact List.Perm.refl _
theorem zH (x:Int×Int)(f g:ai):(tq x f g).all.Perm (x::(f.all++g.all)):=(zq x _).trans (List.Perm.cons x (qD f g))
theorem wO (x:Int×Int)(f g:ai):(tq x f g).size=f.size+g.size+1:=by unfold tq;rw [wG,jJ]
theorem kR:∀l:List ai,(aR (dF l)).Perm (aR l)
 | []=>List.Perm.refl _
 | t::r=>lu r t
theorem lQ (l:List ai):ah (dF l)=ah l:=by
 have:=(kR l).length_eq;rwa [aG,aG]at this
theorem nN:∀l:List ai,(dF l).length+gT l=l.length
 | []=>rfl
 | t::r=>nG r t
theorem iR (h:List ai)(x:Int×Int):(aR (dQ h x)).Perm (x::aR h):=by
 match h with
 | []=>exact List.Perm.refl _
 | [f]=>exact List.Perm.refl _
 | f::g::r =>
  by_cases e:f.rank=g.rank
  ·rw [mK x e];simp only [aR];rw [←List.append_assoc,←List.cons_append];exact (zH x f g).append_right _
  ·rw [mM x e];exact List.Perm.refl _
theorem uQ (h:List ai)(x:Int×Int):ah (dQ h x)=ah h+1:=by
 have:=(iR h x).length_eq;rwa [aG,List.length_cons,aG]at this
theorem mR:∀(l:List (Int×Int)) (h:List ai),(aR (l.foldl dQ h)).Perm (aR h++l)
 | [],h=>by simp
 | x::r,h=>by
  refine (mR r (dQ h x)).trans ?_;refine ((iR h x).append_right r).trans ?_;simp only [List.cons_append];exact List.perm_middle.symm
theorem Gl (l:List (Int×Int)):(aR (Hu l)).Perm l:=by have:=mR l [];simpa [aR,Hu] using this
theorem qQ:∀(l:List (Int×Int)) (h:List ai),mX h l≤2*l.length∧nA h l≤2*l.length
 | [],_=>⟨Nat.le_refl _,Nat.le_refl _⟩
 | x::r,h=>by
  have h1:=qQ r (dQ h x);have h2:=mV h;have h3:=nQ h;simp only [mX,nA,List.length_cons];omega
theorem mQ (a b:List ai):(aR (nu a b)).Perm (aR a++aR b):=(ji _ _).trans ((kR a).append (kR b))
def _root_.Go.Proofs.YtmeodbjlmjpnbaaGreat.ay.sk:ay→Prop
 | .nil=>True
 | .cons _ bs ks r=>bs.length≤ks.len∧ks.len=r.len∧ks.sk∧r.sk
def _root_.Go.Proofs.YtmeodbjlmjpnbaaGreat.ai.sk (t:ai):Prop:=t.bs.length≤t.rank∧t.ks.sk
theorem nS {a b:ai}(h:a.rank=b.rank)(ha:a.sk)(hb:b.sk):(fu a b).sk:=by
 have h1:=ha.1;have h2:=hb.1;simp only [ai.rank]at h h1 h2;unfold fu;split
 ·exact ⟨by simp only [ai.rank,ay.len];omega,h1,h,ha.2,hb.2⟩
 ·exact ⟨by simp only [ai.rank,ay.len];omega,h2,h.symm,hb.2,ha.2⟩
theorem yc (y:Int×Int)(t:ai):(pE y t).rank=t.rank:=by unfold pE;split<;>rfl
theorem xk {x:Int×Int}{a b:ai}(h:a.rank=b.rank):(tq x a b).rank=a.rank+1:=by unfold tq;rw [yc,fA h]
theorem Bl {x:Int×Int}{a b:ai}(h:a.rank=b.rank)(ha:a.sk)(hb:b.sk):(tq x a b).sk:=by
 have h0:=nS h ha hb
 have h1:(fu a b).bs.length≤a.rank:=by
  have h1:=ha.1;have h2:=hb.1;unfold fu;split<;>simp only<;>omega
 have h2:=fA h;unfold tq pE;simp only [ai.rank]at h1 h2;split
 ·exact ⟨by simp only [ai.rank,List.length_cons];omega,h0.2⟩
 ·exact ⟨by simp only [ai.rank,List.length_cons];omega,h0.2⟩
theorem y8 {y:Int×Int}{t:ai}(h:t.hok):(pE y t).hok:=by
 unfold pE;split
 next hv =>
  refine ⟨fun e he=>?_,h.2⟩;simp only [List.cons_append,List.mem_cons]at he;rcases he with rfl|he
  ·show dH e t.x=false;rw [iA];rw [ku]at hv;omega
  ·exact h.1 e he
 next hv =>
  have hv':dH t.x y=false:=by simpa using hv
  refine ⟨fun e he=>?_,h.2⟩;simp only [List.cons_append,List.mem_cons]at he;rcases he with rfl|he
  ·exact hv'
  ·exact qA.ntrans _ _ _ (h.1 e he) hv'
theorem yT {x:Int×Int}{a b:ai}(ha:a.hok)(hb:b.hok):(tq x a b).hok:=y8 (jm ha hb)
theorem yS (x:Int×Int):(bY x).sk:=⟨Nat.zero_le _,trivial⟩
theorem _root_.Go.Proofs.YtmeodbjlmjpnbaaGreat.ay.qz:∀{w:ay},w.sk→2 ^ w.len≤w.size+1∧w.size+w.len+2≤2 ^ (w.len+1)
 | .nil,_=>⟨Nat.le_refl _,by decide⟩
 | .cons x bs ks r,⟨h1,h2,h3,h4⟩=>by
  have i1:=ay.qz h3;have i2:=ay.qz h4;rw [h2]at i1 h1;simp only [ay.size,ay.len,Nat.pow_succ]at *;omega
theorem _root_.Go.Proofs.YtmeodbjlmjpnbaaGreat.ai.sk.sizes {t:ai}(h:t.sk):2 ^ t.rank≤t.size∧t.size<2 ^ (t.rank+1):=by
 have h1:=ay.qz h.2;have h2:=h.1;simp only [ai.size,ai.rank,Nat.pow_succ]at *;omega
theorem kE:∀(l:List ai) (t:ai),t.hok→t.sk→(∀u∈l,t.rank≤u.rank)→(∀u∈l,u.hok)→(∀u∈l,u.sk)→l.Pairwise (fun a b=>a.rank<b.rank) →
  (∀u∈dx l t,u.hok)∧(∀u∈dx l t,u.sk)∧(dx l t).Pairwise (fun a b=>a.rank<b.rank) ∧ ∀u∈dx l t,t.rank≤u.rank
 | [],t,h1,h2,_,_,_,_=>by simp [dx,h1,h2]
 | u::r,t,h1,h2,h3,h4,h5,h6=>by
  unfold dx;obtain ⟨h7,h8⟩:=List.pairwise_cons.1 h6;have hu:=h3 u (by simp);split
  next hr =>
   refine ⟨fun v hv=>?_,fun v hv=>?_,List.pairwise_cons.2 ⟨fun v hv=>?_,h6⟩,fun v hv=>?_⟩
   ·rcases List.mem_cons.1 hv with rfl|hv;exact h1;exact h4 v hv
   ·rcases List.mem_cons.1 hv with rfl|hv;exact h2;exact h5 v hv
   ·rcases List.mem_cons.1 hv with rfl|hv;exact hr;exact Nat.lt_trans hr (h7 v hv)
   ·rcases List.mem_cons.1 hv with rfl|hv;exact Nat.le_refl _;exact h3 v hv
  next hr =>
   have he:t.rank=u.rank:=by omega
   have hk:=fA he;obtain ⟨g1,g2,g3,g4⟩:=kE r (fu t u) (jm h1 (h4 u (by simp))) (nS he h2 (h5 u (by simp))) (fun v hv=>by have:=h7 v hv;omega) (fun v hv=>h4 v (by simp [hv])) (fun v hv=>h5 v (by simp [hv])) h8;exact ⟨g1,g2,g3,fun v hv=>by have:=g4 v hv;omega⟩
theorem eu:∀a b:List ai,(∀t∈a,t.hok)→(∀t∈b,t.hok)→(∀t∈a,t.sk)→(∀t∈b,t.sk)→a.Pairwise (fun a b=>a.rank<b.rank)→b.Pairwise (fun a b=>a.rank<b.rank) →
  (∀u∈aP a b,u.hok)∧(∀u∈aP a b,u.sk)∧(aP a b).Pairwise (fun a b=>a.rank<b.rank) ∧ ∀k,(∀u∈a,k≤u.rank)→(∀u∈b,k≤u.rank) → ∀u∈aP a b,k≤u.rank:=by
 refine gW (P:=fun a b=>(∀t∈a,t.hok)→(∀t∈b,t.hok)→(∀t∈a,t.sk)→(∀t∈b,t.sk)→a.Pairwise (fun a b=>a.rank<b.rank)→b.Pairwise (fun a b=>a.rank<b.rank) →
  (∀u∈aP a b,u.hok)∧(∀u∈aP a b,u.sk)∧(aP a b).Pairwise (fun a b=>a.rank<b.rank) ∧ ∀k,(∀u∈a,k≤u.rank)→(∀u∈b,k≤u.rank) → ∀u∈aP a b,k≤u.rank) ?_ ?_ ?_ ?_ ?_
 ·intro b _ h2 _ h4 _ h6;rw [eU];exact ⟨h2,h4,h6,fun k _ hk=>hk⟩
 ·intro f a h1 _ h3 _ h5 _;rw [dM];exact ⟨h1,h3,h5,fun k hk _=>hk⟩
 ·intro f a g b h ih h1 h2 h3 h4 h5 h6;rw [iE h];obtain ⟨p1,p2⟩:=List.pairwise_cons.1 h5;obtain ⟨q1,q2⟩:=List.pairwise_cons.1 h6;obtain ⟨g1,g2,g3,g4⟩:=ih (fun t ht=>h1 t (by simp [ht])) h2 (fun t ht=>h3 t (by simp [ht])) h4 p2 h6;refine ⟨fun v hv=>?_,fun v hv=>?_,List.pairwise_cons.2 ⟨fun v hv=>?_,g3⟩,fun k hk1 hk2 v hv=>?_⟩
  ·rcases List.mem_cons.1 hv with rfl|hv;exact h1 _ (by simp);exact g1 v hv
  ·rcases List.mem_cons.1 hv with rfl|hv;exact h3 _ (by simp);exact g2 v hv
  ·refine g4 (f.rank+1) (fun u hu=>p1 u hu) (fun u hu=>?_) v hv;rcases List.mem_cons.1 hu with rfl|hu
   ·exact h
   ·have:=q1 u hu;omega
  ·rcases List.mem_cons.1 hv with rfl|hv;exact hk1 _ (by simp);exact g4 k (fun u hu=>hk1 u (by simp [hu])) hk2 v hv
 ·intro f a g b h ih h1 h2 h3 h4 h5 h6;rw [iK h];obtain ⟨p1,p2⟩:=List.pairwise_cons.1 h5;obtain ⟨q1,q2⟩:=List.pairwise_cons.1 h6;obtain ⟨g1,g2,g3,g4⟩:=ih h1 (fun t ht=>h2 t (by simp [ht])) h3 (fun t ht=>h4 t (by simp [ht])) h5 q2;refine ⟨fun v hv=>?_,fun v hv=>?_,List.pairwise_cons.2 ⟨fun v hv=>?_,g3⟩,fun k hk1 hk2 v hv=>?_⟩
  ·rcases List.mem_cons.1 hv with rfl|hv;exact h2 _ (by simp);exact g1 v hv
  ·rcases List.mem_cons.1 hv with rfl|hv;exact h4 _ (by simp);exact g2 v hv
  ·refine g4 (g.rank+1) (fun u hu=>?_) (fun u hu=>q1 u hu) v hv;rcases List.mem_cons.1 hu with rfl|hu
   ·exact h
   ·have:=p1 u hu;omega
  ·rcases List.mem_cons.1 hv with rfl|hv;exact hk2 _ (by simp);exact g4 k hk1 (fun u hu=>hk2 u (by simp [hu])) v hv
 ·intro f a g b h ih h1 h2 h3 h4 h5 h6;rw [iD h];obtain ⟨p1,p2⟩:=List.pairwise_cons.1 h5;obtain ⟨q1,q2⟩:=List.pairwise_cons.1 h6;obtain ⟨g1,g2,g3,g4⟩:=ih (fun t ht=>h1 t (by simp [ht])) (fun t ht=>h2 t (by simp [ht])) (fun t ht=>h3 t (by simp [ht])) (fun t ht=>h4 t (by simp [ht])) p2 q2;have hk:=fA h;have g5:=g4 (f.rank+1) (fun u hu=>p1 u hu) (fun u hu=>by have:=q1 u hu;omega);obtain ⟨k1,k2,k3,k4⟩:=kE (aP a b) (fu f g) (jm (h1 f (by simp)) (h2 g (by simp))) (nS h (h3 f (by simp)) (h4 g (by simp))) (fun u hu=>by have:=g5 u hu;omega) g1 g2 g3;refine ⟨k1,k2,k3,fun k hk1 hk2 v hv=>?_⟩;have:=k4 v hv;have:=hk1 f (by simp);omega
theorem _root_.Go.Proofs.YtmeodbjlmjpnbaaGreat.ay.mH:∀{w:ay},w.sk → ∀t∈w.list,t.sk∧t.rank<w.len
 | .nil,_,_,ht=>by simp [ay.list]at ht
 | .cons x bs ks r,h,t,ht=>by
  rcases List.mem_cons.1 ht with rfl|ht
  ·exact ⟨⟨h.1,h.2.2.1⟩,by simp only [ai.rank,ay.len];have:=h.2.1;omega⟩
  ·have:=ay.mH h.2.2.2 t ht;exact ⟨this.1,by simp only [ay.len];omega⟩
theorem _root_.Go.Proofs.YtmeodbjlmjpnbaaGreat.ay.je:∀{w:ay},w.sk→w.list.reverse.Pairwise (fun a b=>a.rank<b.rank)
 | .nil,_=>by simp [ay.list]
 | .cons x bs ks r,h=>by
  simp only [ay.list,List.reverse_cons,List.pairwise_append];refine ⟨ay.je h.2.2.2,by simp,fun a ha b hb=>?_⟩;simp only [List.mem_singleton]at hb;subst hb;have:=(ay.mH h.2.2.2 a (by simpa using ha)).2;simp only [ai.rank]at *;have:=h.2.1;omega
def upto:List ai→Prop
 | []=>True
 | t::r=>(∀u∈r,t.rank≤u.rank)∧r.Pairwise (fun a b=>a.rank<b.rank)
theorem iy {l:List ai}(h:l.Pairwise (fun a b=>a.rank<b.rank)):upto l:=by
 cases l with
 | nil=>trivial
 | cons t r=>obtain ⟨h1,h2⟩:=List.pairwise_cons.1 h;exact ⟨fun u hu=>Nat.le_of_lt (h1 u hu),h2⟩
structure fZ (h:List ai):Prop where
 hok:∀t∈h,t.hok
 sk:∀t∈h,t.sk
 up:upto h
structure Fg (h:List ai):Prop where
 ok:fZ h
 fit:fits (aR h)
theorem jS {h:List ai}(k:fZ h):(∀u∈dF h,u.hok)∧(∀u∈dF h,u.sk)∧(dF h).Pairwise (fun a b=>a.rank<b.rank):=by
 cases h with
 | nil=>exact ⟨by simp [dF],by simp [dF],List.Pairwise.nil⟩
 | cons t r =>
  obtain ⟨g1,g2,g3, -⟩:=kE r t (k.hok t (by simp)) (k.sk t (by simp)) k.up.1 (fun u hu=>k.hok u (by simp [hu])) (fun u hu=>k.sk u (by simp [hu])) k.up.2;exact ⟨g1,g2,g3⟩
theorem mF:fZ []:=⟨by simp,by simp,trivial⟩
theorem GX:Fg []:=⟨mF,by simp [aR,fits.nil]⟩
theorem yg {a b:List ai}(ha:fZ a)(hb:fZ b):fZ (nu a b):=by
 obtain ⟨a1,a2,a3⟩:=jS ha;obtain ⟨b1,b2,b3⟩:=jS hb;obtain ⟨h1,h2,h3, -⟩:=eu (dF a) (dF b) a1 b1 a2 b2 a3 b3;exact ⟨h1,h2,iy h3⟩
theorem jo {h:List ai}(x:Int×Int)(k:fZ h):fZ (dQ h x):=by
 have leaf:∀l:List ai,(∀u∈l,u.hok)→(∀u∈l,u.sk)→l.Pairwise (fun a b=>a.rank<b.rank)→fZ (bY x::l):=fun l h1 h2 h3 =>
  ⟨fun u hu=>by rcases List.mem_cons.1 hu with rfl|hu;exact oN x;exact h1 u hu,fun u hu=>by rcases List.mem_cons.1 hu with rfl|hu;exact yS x;exact h2 u hu,fun u _=>Nat.zero_le _,h3⟩
 match h,k with
 | [],k=>exact leaf [] k.hok k.sk List.Pairwise.nil
 | [f],k=>exact leaf [f] k.hok k.sk (by simp)
 | f::g::r,k =>
  obtain ⟨u1,u2⟩:=k.up;obtain ⟨u3,u4⟩:=List.pairwise_cons.1 u2;by_cases e:f.rank=g.rank
  ·rw [mK x e];have hr:=xk (x:=x) e;refine ⟨fun u hu=>?_,fun u hu=>?_,fun u hu=>?_,u4⟩
   ·rcases List.mem_cons.1 hu with rfl|hu
    ·exact yT (k.hok f (by simp)) (k.hok g (by simp))
    ·exact k.hok u (by simp [hu])
   ·rcases List.mem_cons.1 hu with rfl|hu
    ·exact Bl e (k.sk f (by simp)) (k.sk g (by simp))
    ·exact k.sk u (by simp [hu])
   ·have:=u3 u hu;omega
  ·rw [mM x e];refine leaf _ k.hok k.sk (List.pairwise_cons.2 ⟨fun u hu=>?_,u2⟩);have h1:=u1 g (by simp);rcases List.mem_cons.1 hu with rfl|hu
   ·omega
   ·have:=u3 u hu;omega
theorem pu:∀(l:List (Int×Int)) (h:List ai),fZ h→fZ (l.foldl dQ h)
 | [],_,hh=>hh
 | x::r,_,hh=>pu r _ (jo x hh)
theorem GH (l:List (Int×Int)):fZ (Hu l):=pu l [] mF
theorem oU {l:List ai}{i:Nat}(h:upto l):upto (aK l i):=by
 cases l with
 | nil=>simp [aK,upto]
 | cons t r =>
  cases i with
  | zero=>simp only [aK,List.take_zero,List.nil_append,Nat.zero_add,List.drop_succ_cons,List.drop_zero];exact iy h.2
  | succ i =>
   have e:aK (t::r) (i+1)=t::aK r i:=by simp [aK]
   rw [e];exact ⟨fun u hu=>h.1 u (dY hu),lY h.2⟩
theorem wI {h:List ai}(hh:fZ h){i:Nat}(hi:i<h.length):fZ (cu h i):=by
 have hm:=List.getElem_mem hi;have hk:aO h i=h[i].ks.list.reverse:=by unfold aO;rw [List.getElem?_eq_getElem hi]
 unfold cu;rw [hk];generalize h[i]=u at *;have hu:=hh.hok u hm;have hb:=hh.sk u hm;obtain ⟨b1,b2,b3⟩:=jS (h:=aK h i) ⟨fun v hv=>hh.hok v (dY hv),fun v hv=>hh.sk v (dY hv),oU hh.up⟩;obtain ⟨h1,h2,h3, -⟩:=eu u.ks.list.reverse (dF (aK h i)) (fun v hv=>ay.lK hu.2 v (by simpa using hv)) b1 (fun v hv=>(ay.mH hb.2 v (by simpa using hv)).1) b2 (ay.je hb.2) b3;exact ⟨h1,h2,iy h3⟩
theorem wD {h:List ai}(hh:fZ h):fZ (nK h):=by
 match h,hh with
 | [],_=>exact mF
 | t::r,hh=>exact pu _ _ (wI hh (dz (l:=t::r) (by simp)))
theorem ve {h:List ai}{i:Nat}(hi:i<h.length):(aR h).Perm (h[i].x::(dB h i++aR (cu h i))):=by
 have hp:=eH hi;have hk:aO h i=h[i].ks.list.reverse:=by unfold aO;rw [List.getElem?_eq_getElem hi]
 have hb:dB h i=h[i].bs:=by unfold dB;rw [List.getElem?_eq_getElem hi]
 unfold cu;rw [hk,hb];generalize h[i]=u at *;refine hp.trans ?_;simp only [ai.all,List.cons_append,List.append_assoc];refine List.Perm.cons _ (List.Perm.append_left _ ?_);refine List.Perm.trans ?_ (ji _ _).symm;refine List.Perm.append ?_ (kR _).symm;exact ((jc _).trans (by rw [ay.nE])).symm
theorem jU {h:List ai}(hne:h≠[]):(aR h).Perm ((qY h).1::aR (nK h)):=by
 match h,hne with
 | t::r,_ =>
  have hl:=dz (l:=t::r) (by simp);have hroot:bq (t::r) (ak (t::r))=((t::r)[ak (t::r)]).x:=by unfold bq;rw [List.getElem?_eq_getElem hl]
  show (aR (t::r)).Perm (bq (t::r) (ak (t::r))::aR ((dB (t::r) (ak (t::r))).foldl dQ (cu (t::r) (ak (t::r)))));rw [hroot];refine (ve hl).trans (List.Perm.cons _ ?_);exact List.perm_append_comm.trans (mR _ _).symm
theorem Dm {h:List ai}(hh:Fg h):Fg (nK h):=by
 refine ⟨wD hh.ok,?_⟩;by_cases hne:h=[]
 ·subst hne;simp [nK,aR,fits.nil]
 ·exact (hh.fit.perm (jU hne)).cons.2
theorem ql {h:List ai}(hh:∀t∈h,t.hok)(hne:h≠[]):∀e∈aR h,dH e (qY h).1=false:=by
 match h,hne with
 | t::r,_ =>
  intro e he;obtain ⟨v,hv,hev⟩:=uH he;obtain ⟨j,hj,rfl⟩:=List.getElem_of_mem hv;have h1:=(hh _ hv).le hev;have h2:=iB (t::r) ((t::r).length - 1) j (by omega);have h3:bq (t::r) j=((t::r)[j]).x:=by unfold bq;rw [List.getElem?_eq_getElem hj]
  rw [h3]at h2;exact qA.ntrans _ _ _ h1 h2
theorem EF {h:List ai}(hh:fZ h)(hne:h≠[]):dw (aR h)=(qY h).1::dw (aR (nK h)):=by
 have hp:=jU hne;rw [bX hp];exact pU (fun e he=>ql hh.hok hne e (hp.symm.subset (List.mem_cons_of_mem _ he)))
end Go.Proofs.YtmeodbjlmjpnbaaGreat.Sk
namespace Go.Proofs.YtmeodbjlmjpnbaaGreat.Sk
open Go.Sort Go.RowKit
structure Lh where
 ts:List ai
def Lh.nil:Lh:=⟨[]⟩
def Lh.size (h:Lh):Nat:=ah h.ts
def Lh.all (h:Lh):List (Int×Int):=aR h.ts
def Lh.show (h:Lh):List UInt8:=Gp h.ts
def Lh.min (h:Lh):(Int×Int)×Bool:=qY h.ts
def Lh.some (h:Lh):Bool:=h.min.2
def Lh.one (x:Int×Int):Lh:=⟨[bY x]⟩
def bI (a b:Lh):Lh:=⟨nu a.ts b.ts⟩
def aQ (a b:Lh):Nat:=fO a.ts b.ts
def Lh.insert (h:Lh)(x:Int×Int):Lh:=⟨dQ h.ts x⟩
def Lh.iJ (h:Lh):Nat:=eX h.ts
def Lh.iF (h:Lh):Nat:=eG h.ts
def Lh.pop (h:Lh):Lh:=⟨nK h.ts⟩
def Lh.jf (h:Lh):Nat:=qG h.ts
def Lh.jl (h:Lh):Nat:=qH h.ts
def Lh.bT (h:Lh):Nat:=h.ts.length - 1
def fG (l:List (Int×Int)):Lh:=l.foldl Lh.insert .nil
def dG:Lh→List (Int×Int)→Nat
 | _,[]=>0
 | h,x::r=>h.iJ+dG (h.insert x) r
def dD:Lh→List (Int×Int)→Nat
 | _,[]=>0
 | h,x::r=>h.iF+dD (h.insert x) r
theorem mJ:∀(l:List (Int×Int)) (h:Lh),(l.foldl Lh.insert h).ts=l.foldl dQ h.ts
 | [],_=>rfl
 | x::r,h=>by rw [List.foldl_cons,List.foldl_cons,mJ r (h.insert x)];rfl
theorem vv (l:List (Int×Int)):(fG l).ts=Hu l:=mJ l .nil
theorem Lh.aD (h:Lh):h.all.length=h.size:=aG _
theorem bP (a b:Lh):(bI a b).all.Perm (a.all++b.all):=mQ _ _
theorem bD (h:Lh)(x:Int×Int):(h.insert x).all.Perm (x::h.all):=iR _ _
theorem gZ (h:Lh)(x:Int×Int):(h.insert x).size=h.size+1:=uQ _ _
theorem lD (h:Lh):h.iJ≤2:=mV _
theorem kZ (h:Lh):h.iF≤2:=(nQ h.ts).1
theorem fJ (l:List (Int×Int)):(fG l).all.Perm l:=by unfold Lh.all;rw [vv];exact Gl l
theorem iU:∀(l:List (Int×Int)) (h:Lh) (x:Int×Int),dG h (l++[x])=dG h l+(l.foldl Lh.insert h).iJ
 | [],h,x=>by simp [dG]
 | y::l,h,x=>by simp only [List.cons_append,dG,List.foldl_cons];rw [iU l (h.insert y) x];omega
theorem iP:∀(l:List (Int×Int)) (h:Lh) (x:Int×Int),dD h (l++[x])=dD h l+(l.foldl Lh.insert h).iF
 | [],h,x=>by simp [dD]
 | y::l,h,x=>by simp only [List.cons_append,dD,List.foldl_cons];rw [iP l (h.insert y) x];omega
theorem nH:∀(l:List (Int×Int)) (h:Lh),dG h l≤2*l.length∧dD h l≤2*l.length
 | [],_=>⟨Nat.le_refl _,Nat.le_refl _⟩
 | x::r,h=>by
  have h1:=nH r (h.insert x);have h2:=lD h;have h3:=kZ h;simp only [dG,dD,List.length_cons];omega
def Lh.ok (h:Lh):Prop:=fZ h.ts
theorem gm (a b:Lh)(ha:a.ok)(hb:b.ok):(bI a b).ok:=yg ha hb
theorem gF {h:Lh}(x:Int×Int)(hk:h.ok):(h.insert x).ok:=jo x hk
theorem qd (l:List (Int×Int)):(fG l).ok:=by unfold Lh.ok;rw [vv];exact GH l
theorem nP {h:Lh}(hk:h.ok):h.pop.ok:=wD hk
theorem Lh.oL {h:Lh}(hz:h.size=0):h=.nil:=by
 obtain ⟨l⟩:=h;have:l=[]:=rV hz;subst this;rfl
theorem dX (h:Lh):h.ts.length≤h.size:=by
 obtain ⟨l⟩:=h;show l.length≤ah l;induction l with
 | nil=>exact Nat.le_refl _
 | cons t r ih=>simp only [List.length_cons,ah,ai.size];omega
theorem kz (h:Lh):h.bT≤h.size:=by have:=dX h;unfold Lh.bT;omega
theorem lN (h:Lh):h.jf≤2*h.size∧h.jl≤2*h.size:=by
 obtain ⟨l⟩:=h;match l with
 | []=>exact ⟨Nat.zero_le _,Nat.zero_le _⟩
 | t::r =>
  have hl:=dz (l:=t::r) (by simp);have hk:aO (t::r) (ak (t::r))=((t::r)[ak (t::r)]).ks.list.reverse:=by unfold aO;rw [List.getElem?_eq_getElem hl]
  have hb:dB (t::r) (ak (t::r))=((t::r)[ak (t::r)]).bs:=by unfold dB;rw [List.getElem?_eq_getElem hl]
  have h1:=nN (aK (t::r) (ak (t::r)));have h2:=kH (aO (t::r) (ak (t::r))) (dF (aK (t::r) (ak (t::r))));have h3:=dX ⟨aK (t::r) (ak (t::r))⟩;have h4:=(eH hl).length_eq;rw [aG,List.length_append,aG,ai.aD]at h4;have h5:=((t::r)[ak (t::r)]).ks.fE;have h6:(aO (t::r) (ak (t::r))).length=((t::r)[ak (t::r)]).ks.len:=by rw [hk,List.length_reverse,ay.lF]
  have h7:=qQ (dB (t::r) (ak (t::r))) (cu (t::r) (ak (t::r)));have h8:((t::r)[ak (t::r)]).size=1+((t::r)[ak (t::r)]).bs.length+((t::r)[ak (t::r)]).ks.size:=rfl;rw [hb]at h7;simp only [Lh.size]at h3;show qG (t::r)≤2*ah (t::r)∧qH (t::r)≤2*ah (t::r);simp only [qG,qH,dR];rw [hb];omega
structure Lh.good (h:Lh):Prop where
 ok:h.ok
 fit:fits h.all
theorem jQ {a b:Lh}(ha:a.good)(hb:b.good):(bI a b).good:=⟨gm _ _ ha.ok hb.ok,(ha.fit.join hb.fit).perm (bP a b).symm⟩
theorem kL {a:Lh}{x:Int×Int}(ha:a.good)(h:iw x.1∧iw x.2):(a.insert x).good:=⟨gF x ha.ok,(fits.more h ha.fit).perm (bD a x).symm⟩
theorem kT {l:List (Int×Int)}(h:fits l):(fG l).good:=⟨qd l,h.perm (fJ l).symm⟩
theorem jE {a:Lh}(ha:a.good):a.pop.good:=⟨nP ha.ok,(Dm ⟨ha.ok,ha.fit⟩).fit⟩
theorem rq (a b:Lh):dw (bI a b).all=dw (a.all++b.all):=bX (bP a b)
theorem nJ (a:Lh)(x:Int×Int):dw (a.insert x).all=dw (x::a.all):=bX (bD a x)
theorem nD (l:List (Int×Int)):dw (fG l).all=dw l:=bX (fJ l)
theorem jK {h:Lh}(hk:h.ok)(hne:h.min.2=true):dw h.all=h.min.1::dw h.pop.all:=by
 have:h.ts≠[]:=by intro e;unfold Lh.min at hne;rw [e]at hne;cases hne
 exact EF hk this
theorem kS {a:Lh}(h:a.ok):dw a.pop.all=(dw a.all).tail:=by
 by_cases hne:a.min.2=true
 ·rw [jK h hne];rfl
 ·have:a.ts=[]:=by
   cases ht:a.ts with
   | nil=>rfl
   | cons t r=>unfold Lh.min at hne;rw [ht]at hne;exact absurd rfl hne
  unfold Lh.pop Lh.all;rw [this];show dw (aR [])=(dw (aR [])).tail;simp [aR,kr]
theorem rE (t:Lh):t.some=decide (0<t.size):=by
 obtain ⟨l⟩:=t
 cases l with
 | nil=>rfl
 | cons t r =>
  show true=decide (0<ah (t::r));exact (decide_eq_true (by simp only [ah,ai.size];omega)).symm
theorem jX (t:Lh):t.min.2=t.some:=rfl
end Go.Proofs.YtmeodbjlmjpnbaaGreat.Sk
namespace Go.Proofs.YtmeodbjlmjpnbaaGreat.Sk.Hp
open Go.Sort Go.RowKit
structure HP where
 q:Option Addr
 n:Int
abbrev hp (p:HP):Value := .agg #[.pointer p.q,.int .i64 p.n]
def au (t:TypeId):Prop:=dV t∨t=291
abbrev Kp (W W':World):Prop:=bO au W W'
theorem ax:¬au 89 := by unfold au dV;decide
theorem iN:¬au 29 := by unfold au dV;decide
theorem aj:¬au 117 := by unfold au dV;decide
theorem dh:¬au 106 := by unfold au dV;decide
section
variable {W W':World}
theorem Kp.tree (h:Kp W W'):Go.Proofs.YtmeodbjlmjpnbaaGreat.Kp W W':=fun k cs t ht e=>h k cs t (.inl ht) e
theorem mY (h:Kp W W'):∀{m m':Nat} {p:Option Addr} {xs:List (Option Addr)},W.heap.size≤W'.heap.size→m≤W.heap.size→m'=W'.heap.size→Chain Lt.one 291 m W p xs→Chain Lt.one 291 m' W' p xs
 | _,_,_,[],_,_,_,hl=>hl
 | _,_,_,_::_,hs,hm,he,⟨b,q,hp,hb,hv,hr⟩=>⟨b,q,hp,by omega,h _ _ _ (.inr rfl) hv,mY h hs hm he hr⟩
def aS (W:World):List ai→List (Option Addr)→Prop
 | [],ps=>ps=[]
 | t::ts,ps => ∃p ps',ps=p::ps'∧gQ W p (some t)∧aS W ts ps'
theorem aS.kp (h:Kp W W'):∀{ts:List ai} {ps:List (Option Addr)},aS W ts ps→aS W' ts ps
 | [],_,hp=>hp
 | _::_,_,⟨p,ps',e,h1,h2⟩=>⟨p,ps',e,h1.kp h.tree,aS.kp h h2⟩
theorem aS.length:∀{ts:List ai} {ps:List (Option Addr)},aS W ts ps→ps.length=ts.length
 | [],_,h=>by rw [h];rfl
 | _::_,_,⟨_,_,e,_,h⟩=>by rw [e,List.length_cons,h.length,List.length_cons]
theorem aS.at:∀{ts:List ai} {ps:List (Option Addr)} {j:Nat} {t:ai},aS W ts ps→ts[j]?=some t → ∃p,ps[j]?=some p∧gQ W p (some t)
 | [],_,_,_,_,h=>by simp at h
 | u::_,_,0,t,⟨p,ps',e,h1,_⟩,h=>by
  have:u=t:=by simpa using h
  subst this;subst e;exact ⟨p,rfl,h1⟩
 | _::_,_,j+1,t,⟨p,ps',e,_,h2⟩,h=>by
  subst e;obtain ⟨q,hq,ht⟩:=aS.at (j:=j) h2 (by simpa using h);exact ⟨q,by simpa using hq,ht⟩
theorem aS.append:∀{ts us:List ai} {ps qs:List (Option Addr)},aS W ts ps→aS W us qs→aS W (ts++us) (ps++qs)
 | [],_,_,_,h,k=>by rw [h];exact k
 | _::_,_,_,_,⟨p,ps',e,h1,h2⟩,k=>by rw [e];exact ⟨p,ps'++_,rfl,h1,aS.append h2 k⟩
theorem aS.one {t:ai}{p:Option Addr}(h:gQ W p (some t)):aS W [t] [p]:=⟨p,[],rfl,h,rfl⟩
theorem aS.reverse:∀{ts:List ai} {ps:List (Option Addr)},aS W ts ps→aS W ts.reverse ps.reverse
 | [],_,h=>by rw [h];rfl
 | t::ts,_,⟨p,ps',e,h1,h2⟩=>by
  rw [e,List.reverse_cons,List.reverse_cons];exact aS.append (aS.reverse h2) (aS.one h1)
theorem aS.take:∀{ts:List ai} {ps:List (Option Addr)} (k:Nat),aS W ts ps→aS W (ts.take k) (ps.take k)
 | [],_,k,h=>by rw [h];simp [aS]
 | _::_,_,0,_=>by simp [aS]
 | _::_,_,k+1,⟨p,ps',e,h1,h2⟩=>by rw [e];exact ⟨p,ps'.take k,rfl,h1,aS.take k h2⟩
theorem aS.drop:∀{ts:List ai} {ps:List (Option Addr)} (k:Nat),aS W ts ps→aS W (ts.drop k) (ps.drop k)
 | [],_,k,h=>by rw [h];simp [aS]
 | _::_,_,0,h=>h
 | _::_,_,k+1,⟨p,ps',e,h1,h2⟩=>by rw [e];exact aS.drop k h2
theorem aS.tail {ts:List ai}{ps:List (Option Addr)}(h:aS W ts ps):aS W ts.tail ps.tail:=by
 have:=h.drop 1;rwa [List.drop_one,List.drop_one]at this
theorem iG.ts:∀{ks:ay} {ps:List (Option Addr)},iG W ks ps→aS W ks.list ps
 | .nil,_,h=>h
 | .cons _ _ _ _,_,⟨_,ps',e,hn,h⟩=>⟨_,ps',e,⟨_,rfl,hn⟩,iG.ts h⟩
def aA (W:World)(t:Lh)(p:HP):Prop:=∃ps,Ch Lt.one 291 W p.q ps∧aS W t.ts ps∧p.n=(t.ts.length:Nat)∧t.size<268435456∧t.ok
theorem aA.fQ {t:Lh}{p:HP}(hn:aA W t p)(h:Kp W W')(hs:W.heap.size≤W'.heap.size):aA W' t p:=by
 obtain ⟨ps,h1,h2,h3⟩:=hn;exact ⟨ps,mY h hs (Nat.le_refl _) rfl h1,h2.kp h,h3⟩
theorem aA.stay {t:Lh}{p:HP}(hn:aA W t p)(h:Below W.heap.size W W'):aA W' t p:=hn.fQ (bO.below h) h.size
theorem aA.small {t:Lh}{p:HP}(hn:aA W t p):t.size<268435456:=by obtain ⟨_,_,_,_,h,_⟩:=hn;exact h
theorem aA.right {t:Lh}{p:HP}(hn:aA W t p):t.ok:=by obtain ⟨_,_,_,_,_,h⟩:=hn;exact h
theorem aA.len {t:Lh}{p:HP}(hn:aA W t p):t.ts.length<268435456:=by have:=hn.small;have:=dX t;omega
theorem aA.list {t:Lh}{p:HP}(hn:aA W t p):∃(ps:List (Option Addr)) (n:Nat),p.n=(n:Int)∧n=t.ts.length∧Lt.LL W p.q n ps∧aS W t.ts ps:=by
 have hl:=hn.len;obtain ⟨ps,h1,h2,h3,h4,h5⟩:=hn;exact ⟨ps,t.ts.length,h3,rfl,⟨h1,h2.length.symm,by omega⟩,h2⟩
theorem aA.of {ts:List ai}{q:Option Addr}{n:Nat}{ps:List (Option Addr)}(hl:Lt.LL W q n ps)(ht:aS W ts ps)(hs:ah ts<268435456)(hk:fZ ts):aA W ⟨ts⟩ ⟨q,(n:Int)⟩ :=
 ⟨ps,hl.1,ht,by show (n:Int)=_;rw [hl.2.1,ht.length],hs,hk⟩
theorem aA.nil (W:World):aA W .nil ⟨none,0⟩:=⟨[],Ch.none W,rfl,rfl,by decide,mF⟩
theorem aA.no {p:HP}(h:aA W .nil p):p=⟨none,0⟩:=by
 obtain ⟨q,n⟩:=p;obtain ⟨ps,h1,h2,h3, -⟩:=h;obtain rfl:ps=[]:=h2;have h4:q=none:=h1;have h5:n=0:=h3;rw [h4,h5]
end
def bU (mo:Option Nat)(c m:Int)(t:Lh)(w:World)(e:Ending)(w':World):Prop:=∃p:HP,e=.returned (.agg #[.pointer p.q,.int .i64 p.n])∧aA w' t p∧aW w' mo c m∧Bt mo w w'
section
variable {W W':World}{mo:Option Nat}{c m:Int}
theorem Kp.bt (hb:Bt mo W W')(hm:aW W mo c m):Kp W W':=hb.oG hm ax
theorem aA.bt {t:Lh}{p:HP}(h:aA W t p)(hb:Bt mo W W')(hm:aW W mo c m):aA W' t p:=h.fQ (hb.oG hm ax) hb.size
theorem aS.bt {ts:List ai}{ps:List (Option Addr)}(h:aS W ts ps)(hb:Bt mo W W')(hm:aW W mo c m):aS W' ts ps:=h.kp (hb.oG hm ax)
end
end Go.Proofs.YtmeodbjlmjpnbaaGreat.Sk.Hp
namespace Go.Proofs.YtmeodbjlmjpnbaaGreat.Sk.Hp
open Go.Sort Go.RowKit
section
variable {W W':World}{mo:Option Nat}{c m:Int}{b:Nat}{t:TypeId}{x y:Value}
theorem Kp.set2 (h:aB W b t x y)(ht:¬au t)(u v:Value):Kp W ((W.setCell ⟨b,0,none⟩ u).setCell ⟨b,1,none⟩ v):=(bO.set h ht 0 u).trans (bO.set (h.set0 u) ht 1 v)
theorem iV (W:World)(b:Nat)(u v:Value):((W.setCell ⟨b,0,none⟩ u).setCell ⟨b,1,none⟩ v).heap.size=W.heap.size:=by simp [World.setCell]
theorem aA.set2 {l:Lh}{p:HP}(hl:aA W l p)(h:aB W b t x y)(ht:¬au t)(u v:Value):aA ((W.setCell ⟨b,0,none⟩ u).setCell ⟨b,1,none⟩ v) l p:=hl.fQ (Kp.set2 h ht u v) (by rw [iV];exact Nat.le_refl _)
theorem aS.set2 {ts:List ai}{ps:List (Option Addr)}(hl:aS W ts ps)(h:aB W b t x y)(ht:¬au t)(u v:Value):aS ((W.setCell ⟨b,0,none⟩ u).setCell ⟨b,1,none⟩ v) ts ps:=hl.kp (Kp.set2 h ht u v)
theorem qf {q:Option Addr}{n:Nat}{ps:List (Option Addr)}(hl:Lt.LL W q n ps)(h:aB W b t x y)(ht:¬au t)(u v:Value):Lt.LL ((W.setCell ⟨b,0,none⟩ u).setCell ⟨b,1,none⟩ v) q n ps:=⟨mY (Kp.set2 h ht u v) (by rw [iV];exact Nat.le_refl _) (Nat.le_refl _) rfl hl.1,hl.2⟩
end
theorem dU {t:ai}{ts:List ai}(h:fZ (t::ts)):fZ ts:=⟨fun u hu=>h.hok u (List.mem_cons_of_mem _ hu),fun u hu=>h.sk u (List.mem_cons_of_mem _ hu),iy h.up.2⟩
abbrev rises (l:List ai):Prop:=l.Pairwise (fun a b=>a.rank<b.rank)
theorem up_sub:∀{us ts:List ai},upto ts→us.Sublist ts→upto us
 | [],_,_,_=>trivial
 | u::us,[],_,h=>by cases h
 | u::us,t::ts,⟨h1,h2⟩,h=>by
  cases h with
  | cons _ h=>exact iy (h2.sublist h)
  | cons_cons _ h=>exact ⟨fun v hv=>h1 v (h.subset hv),h2.sublist h⟩
theorem jw {us ts:List ai}(h:fZ ts)(hs:us.Sublist ts):fZ us:=⟨fun u hu=>h.hok u (hs.subset hu),fun u hu=>h.sk u (hs.subset hu),up_sub h.up hs⟩
theorem bS (t:ai)(ts:List ai)(p:HP)(w:World)(h:aA w ⟨t::ts⟩ p):Calls Tryz.prog 317 #[hp p] w fun e w' => ∃p':HP,e=.returned (.agg #[.pointer p'.q,.int .i64 p'.n])∧aA w' ⟨ts⟩ p'∧Below w.heap.size w w':=by
 have hs:=h.small;obtain ⟨ps,n,hn,hnl,hl,ht⟩:=h.list;obtain ⟨q,pn⟩:=p;change pn=(n:Int) at hn;subst hn;have hb1:Below w.heap.size w ((w.alloc (.cells #[.pointer q,.int .i64 (n:Int)] 117)).alloc (.cells #[.pointer none,.int .i64 0] 117)):=((Below.refl _ w).alloc (Nat.le_refl _) _).alloc (by simp) _;have bR:=aB.new (w.alloc (.cells #[.pointer q,.int .i64 (n:Int)] 117)) 117 (.pointer none) (.int .i64 0);simp only [World.size_alloc]at bR;have H:=hdz (af (hl.stay hb1) (af (ht.kp (bO.below hb1)) (af hb1 (af bR (af hs h.right)))));clear h hl ht hb1 bR hs hnl;go_enter Tryz.func317,Tryz.ntmps317
 go_wp2_with fail
 ((with_reducible refine (Lt.oC H.out.1).mono ?_);rintro e w2 ⟨q2,n2,rfl,hl2,hb2⟩);have B2:=H.out.2.2.2.1.stay hb2;have c0:=B2.c0;have c1:=B2.c1;have z0:=B2.z0;have z1:=B2.z1;have X:=hdz (af B2 (af hl2 (af (H.out.2.1.kp (bO.below hb2)) (H.out.2.2.1.trans (hb2.mono H.out.2.2.1.size)))));clear B2 hl2 hb2;go_wp2_with fail
 have S:=X.out.1.set (.pointer q2) (.int .i64 (n2:Int));have d0:=S.c0;have d1:=S.c1;refine bodyPost_ret (v:=hp ⟨q2,(n2:Int)⟩) (by simp [results,Tryz.results317,go_sem,d0,d1]) rfl ⟨⟨q2,(n2:Int)⟩,rfl,?_,aL X.out.2.2.2 (by omega) _ _⟩;exact aA.of (qf X.out.2.1 X.out.1 aj _ _) (X.out.2.2.1.tail.set2 X.out.1 aj _ _) (by have h1:=H.out.2.2.2.2.1;simp only [Lh.size,ah]at h1;omega) (dU H.out.2.2.2.2.2)
theorem mU {l:List ai}{i:Nat}(h:i<l.length):ah (l.take (i+1))=ah (l.take i)+l[i].size:=by
 have e:∀a b:List ai,ah (a++b)=ah a+ah b:=fun a b=>by
  induction a with
  | nil=>simp [ah]
  | cons t r ih=>simp only [List.cons_append,ah,ih];omega
 rw [List.take_succ_eq_append_getElem h,e];simp [ah]
theorem cO (l:List ai)(i:Nat):ah (l.take i)≤ah l:=by
 have e:∀a b:List ai,ah (a++b)=ah a+ah b:=fun a b=>by
  induction a with
  | nil=>simp [ah]
  | cons t r ih=>simp only [List.cons_append,ah,ih];omega
 conv=>rhs;rw [←List.take_append_drop i l]
 rw [e];omega
theorem jP {W:World}{b o:Nat}{ps:List (Option Addr)}(h:Row1 Lt.one W (some ⟨b,o,none⟩) ps){j:Nat}{p:Option Addr}(hj:ps[j]?=some p):W.cell? ⟨b,o+j,none⟩=some (.pointer p):=by
 obtain ⟨hlt,rfl⟩:=List.getElem?_eq_some_iff.1 hj;obtain ⟨b',o',e,hc⟩:=h (by omega)
 cases e
 exact hc j hlt
theorem jW {W:World}{A:Option Addr}{ps:List (Option Addr)}(h:Row1 Lt.one W A ps)(h0:0<ps.length):∃b o,A=some ⟨b,o,none⟩:=by
 obtain ⟨b,o,e, -⟩:=h h0;exact ⟨b,o,e⟩
theorem eF (t:Lh)(p:HP)(w:World)(h:aA w t p):Calls Tryz.prog 307 #[hp p] w fun e w'=>e=.returned (.int .i64 (t.size:Nat))∧Below w.heap.size w w':=by
 have hs:=h.small;obtain ⟨ps,n,hn,hnl,hl,ht⟩:=h.list;obtain ⟨q,pn⟩:=p;change pn=(n:Int) at hn;subst hn;have hb1:Below w.heap.size w (w.alloc (.cells #[.pointer q,.int .i64 (n:Int)] 117)):=(Below.refl _ w).alloc (Nat.le_refl _) _;have H:=hdz (af (hl.stay hb1) (af (ht.kp (bO.below hb1)) (af hb1 (af hs hnl))));have hn:n<268435456:=by have:=h.len;omega
 clear h hl ht hb1 hs hnl;go_enter Tryz.func307,Tryz.ntmps307
 go_wp2_with fail
 ((with_reducible refine (Lt.qK H.out.1).mono ?_);rintro e w2 ⟨A,cc,rfl, -,hr,hnc,hb2⟩);have X:=hdz (af hr (af hnc (af (H.out.2.1.kp (bO.below hb2)) (H.out.2.2.1.trans (hb2.mono H.out.2.2.1.size)))));clear hr hnc hb2;go_wp2_with fail
 go_loopg [3,10] n (fun k s iv wr => ∃i z:Nat,iv=.int .i64 (i:Int)∧s=.int .i64 (z:Int)∧z=ah (t.ts.take i)∧i+k=n∧w2=wr)
 case atStart=>exact ⟨0,0,rfl,rfl,rfl,by omega,rfl⟩
 case round =>
  obtain ⟨i,z,rfl,rfl,hz,hi,hw⟩:=hrel;subst hw;by_cases hlt:i<n
  ·have hil:i<t.ts.length:=by have:=H.out.2.2.2.2;omega
   obtain ⟨a,ha,hta⟩:=X.out.2.2.1.at (List.getElem?_eq_getElem hil);have hpl:=X.out.2.2.1.length;obtain ⟨b,o,rfl⟩:=jW X.out.1 (by omega);have hc:=jP X.out.1 ha;have hz1:=mU hil;have hz2:=cO t.ts (i+1);have hsm:ah t.ts<268435456:=H.out.2.2.2.1;have HT:=hdz (show gQ w2 a (some t.ts[i])∧bF (some t.ts[i])<1073741824∧bF (some t.ts[i])=t.ts[i].size from ⟨hta,by simp only [bF];omega,rfl⟩);obtain ⟨sz,hsz⟩:=aU (t.ts[i].size);have HZ:=hdz (show z+sz=ah (t.ts.take (i+1))∧z+sz<268435456∧i+gk=n∧sz=t.ts[i].size from ⟨by omega,by omega,hi,hsz⟩);have q1:(i:Int)<(n:Int):=by omega
   have q2:(0:Int)≤(i:Int):=by omega
   have q3:decide ((i:Int)<(n:Int))=true:=by simp;omega
   have q4:decide (i<n)=true:=by simp;omega
   have w1':IntKind.i64.wrap ((i:Int)+1)=(i:Int)+1:=by rw [IntKind.wrap_i64];omega
   have w2':IntKind.i64.wrap ((z:Int)+(sz:Int))=(z:Int)+(sz:Int):=by have:=HZ.out;rw [IntKind.wrap_i64];omega
   clear hta ha hz1 hz2 hsm hz hi hsz hpl;go_wp2_with fail
   ((with_reducible refine (Go.Proofs.YtmeodbjlmjpnbaaGreat.eF a _ _ HT.out.1 HT.out.2.1).mono ?_);rintro e w3 ⟨rfl,hw3⟩);subst hw3;rw [HT.out.2.2,←HZ.out.2.2.2];go_wp2_with fail
   go_roundg (n - 1 - i)
   case measure=>have:=HZ.out;omega
   case rel=>exact ⟨i+1,z+sz,by first|rfl|(congr 1;unfold wrap64;omega),by rw [Int.natCast_add],HZ.out.1,by have:=HZ.out;omega,rfl⟩
  ·have q1:¬(i:Int)<(n:Int):=by omega
   have q3:decide ((i:Int)<(n:Int))=false:=by simp;omega
   have q4:decide (i<n)=false:=by simp;omega
   have hql:z=t.size:=by rw [hz,show t.ts.take i=t.ts from List.take_of_length_le (by have:=H.out.2.2.2.2;omega)];rfl
   have HQ:=hdz hql;clear hql hz hi;go_wp2_with fail
   go_ret
   exact ⟨by rw [←HQ.out];rfl,X.out.2.2.2⟩
end Go.Proofs.YtmeodbjlmjpnbaaGreat.Sk.Hp
namespace Go.Proofs.YtmeodbjlmjpnbaaGreat.Sk.Hp
open Go.Sort Go.RowKit
theorem bW:∀l:List ai,l.length≤ah l
 | []=>Nat.le_refl _
 | t::r=>by have:=bW r;simp only [List.length_cons,ah,ai.size];omega
theorem bC {W:World}{p:Option Addr}{t:ai}(h:gQ W p (some t))(r:Nat)(hr:r=t.rank):Calls Tryz.prog 142 #[.pointer p] W fun e w'=>e=.returned (.int .i64 (r:Int))∧w'=W :=
 (Go.Proofs.YtmeodbjlmjpnbaaGreat.jG p (some t) W h).mono fun _ _ ⟨he,hw⟩=>⟨by rw [he,hr];rfl,hw⟩
theorem jq:∀(x:Option Addr) (y:Int) (w:World),(Instr.field 117 (.agg #[.pointer x,.int .i64 y]) 0).run Tryz.prog w=.ok (.agg #[.pointer x,.int .i64 y]) w:=fun _ _ _=>by kernel_rfl
theorem bN {t:ai}{ts:List ai}{p:HP}{w:World}(h:aA w ⟨t::ts⟩ p):∃a,gQ w a (some t)∧Calls Tryz.prog 141 #[hp p] w fun e w'=>e=.returned (.tuple #[.pointer a,.bool true])∧Below w.heap.size w w':=by
 obtain ⟨ps,h1,⟨a,ps',rfl,h2,h2'⟩,h3,h4⟩:=h;exact ⟨a,h2,Lt.jH p.q a ps' p.n w h1⟩
theorem eB {p:HP}{w:World}(h:aA w .nil p):Calls Tryz.prog 141 #[hp p] w fun e w'=>e=.returned (.tuple #[.pointer none,.bool false])∧Below w.heap.size w w':=by
 obtain rfl:=h.no;exact Lt.kK 0 w
theorem gN {t:ai}{ts:List ai}{p:HP}{a:Option Addr}{w:World}(h:aA w ⟨ts⟩ p)(ht:gQ w a (some t))(hs:t.size+ah ts<268435456)(hk:fZ (t::ts)):Calls Tryz.prog 145 #[hp p,.pointer a] w fun e w' => ∃p':HP,e=.returned (.agg #[.pointer p'.q,.int .i64 p'.n])∧aA w' ⟨t::ts⟩ p'∧Below w.heap.size w w':=by
 have hlen:=h.len;obtain ⟨ps,n,hn,hnl,hl,hts⟩:=h.list;change n=ts.length at hnl;change ts.length<_ at hlen;obtain ⟨q,pn⟩:=p;change pn=(n:Int) at hn;subst hn;refine (Lt.pY a hl (by omega)).mono fun e w' ⟨q',n',he,hl',hb⟩=>⟨⟨q',(n':Int)⟩,he,?_,hb⟩;exact aA.of (ts:=t::ts) hl' ⟨a,ps,rfl,ht.stay hb,hts.kp (bO.below hb)⟩ hs hk
theorem ug {t:ai}{ts:List ai}(h1:t.hok)(h2:t.sk)(h:fZ ts)(hlow:∀x∈ts,t.rank≤x.rank)(hr:rises ts):fZ (t::ts) :=
 ⟨fun u hu=>by rcases List.mem_cons.1 hu with rfl|hu;exact h1;exact h.hok u hu,fun u hu=>by rcases List.mem_cons.1 hu with rfl|hu;exact h2;exact h.sk u hu,⟨hlow,hr⟩⟩
structure F2 (W:World)(a:Nat)(p:HP):Prop where
 h:aB W a 117 (.pointer p.q) (.int .i64 p.n)
 r:aB W (a+1) 117 (.pointer none) (.int .i64 0)
section
variable {W W':World}{a:Nat}{p q:HP}{mo:Option Nat}{c m:Int}
theorem F2.new (w:World)(p:HP):F2 ((w.alloc (.cells #[.pointer p.q,.int .i64 p.n] 117)).alloc (.cells #[.pointer none,.int .i64 0] 117)) w.heap.size p:=by
 refine ⟨(aB.new w 117 _ _).alloc _,?_⟩;have:=aB.new (w.alloc (.cells #[.pointer p.q,.int .i64 p.n] 117)) 117 (.pointer none) (.int .i64 0);simpa only [World.size_alloc] using this
theorem F2.stay (h:F2 W a p)(hb:Below W.heap.size W W'):F2 W' a p:=⟨h.h.stay hb,h.r.stay hb⟩
theorem F2.bt (h:F2 W a p)(hb:Bt mo W W')(hm:aW W mo c m):F2 W' a p:=⟨h.h.bt hb hm (by decide),h.r.bt hb hm (by decide)⟩
end
theorem aX (w:World)(x y:Obj):Below w.heap.size w ((w.alloc x).alloc y):=((Below.refl _ w).alloc (Nat.le_refl _) _).alloc (by simp) _
def lH (mo:Option Nat)(ts:List ai):Prop:=∀(c m:Int) (t:ai) (pa:Option Addr) (p:HP) (w:World),t.size+ah ts<268435456→aW w mo c m→0≤c→c+ts.length<1152921504606846976→0≤m→m+ts.length<1152921504606846976 →
  aA w ⟨ts⟩ p→rises ts→gQ w pa (some t)→t.hok→t.sk→(∀x∈ts,t.rank≤x.rank) →
  Calls Tryz.prog 318 #[hp p,aF mo,.pointer pa] w (bU mo (c+bg ts t) (m+bg ts t) ⟨dx ts t⟩ w)
theorem uN (mo:Option Nat):lH mo []:=by
 intro c m t pa p w hs hm h0 h1 h2 h3 hl hr ht hk1 hk2 hlow;have HF:=hdz (F2.new w p);have KK:=hdz ((dL.refl (N:=au) hm).stay (aX w (.cells #[.pointer p.q,.int .i64 p.n] 117) (.cells #[.pointer none,.int .i64 0] 117)));have HL:=hdz (af (hl.stay (aX w (.cells #[.pointer p.q,.int .i64 p.n] 117) (.cells #[.pointer none,.int .i64 0] 117))) (ht.stay (aX w (.cells #[.pointer p.q,.int .i64 p.n] 117) (.cells #[.pointer none,.int .i64 0] 117))));have HN:=hdz (af hs (af h0 (af h1 (af h2 h3))));have HO:=hdz (af (show fZ [] from hl.right) (af hr (af hk1 (af hk2 hlow))));clear hs hm h0 h1 h2 h3 hl hr ht hk1 hk2 hlow;go_enter Tryz.func318,Tryz.ntmps318
 go_wp2_with fail
 generalize (w.alloc (.cells #[.pointer p.q,.int .i64 p.n] 117)).alloc (.cells #[.pointer none,.int .i64 0] 117)=w1 at *;obtain ⟨a,ha⟩:=aU (w.heap.size);rw [←ha]at HF ⊢;have HA:=hdz ha;clear ha;((with_reducible refine (eB HL.out.1).mono ?_);rintro e w2 ⟨rfl,hb2⟩);have F2:=hdz (HF.out.stay hb2);have K2:=hdz (KK.out.stay hb2);have L2:=hdz (af (HL.out.1.stay hb2) (HL.out.2.stay hb2));have c0:=F2.out.h.c0;have c1:=F2.out.h.c1;clear hb2 HF KK HL;go_wp2_with fail
 clear c0 c1;((with_reducible refine (gN L2.out.1 L2.out.2 (by have:=HN.out;(try simp only [ah]at *);omega) (ug HO.out.2.2.1 HO.out.2.2.2.1 HO.out.1 HO.out.2.2.2.2 HO.out.2.1)).mono ?_);rintro e w6 ⟨p6,rfl,Io,hb6⟩);have F6:=hdz (F2.out.stay hb6);have K6:=hdz (K2.out.stay hb6);have L6:=hdz Io;have z0:=F6.out.r.z0;have z1:=F6.out.r.z1;have r0:=F6.out.r.c0;have r1:=F6.out.r.c1;have s0:=(F6.out.r.set (.pointer p6.q) (.int .i64 p6.n)).c0;have s1:=(F6.out.r.set (.pointer p6.q) (.int .i64 p6.n)).c1;clear Io hb6;go_wp2_with fail
 have k:=K6.out.eY F6.out.r aj (by decide) (by have:=HA.out;omega) (.pointer p6.q) (.int .i64 p6.n);exact bodyPost_ret (v:=hp p6) (by simp [results,Tryz.results318,go_sem,s0,s1]) rfl ⟨p6,rfl,L6.out.set2 F6.out.r aj _ _,by simpa [bg] using k.mt,k.bt⟩
theorem sN (mo:Option Nat)(x:ai)(us:List ai)(IH:lH mo us):lH mo (x::us):=by
 intro c m t pa p w hs hm h0 h1 h2 h3 hl hr ht hk1 hk2 hlow;have HF:=hdz (F2.new w p);have KK:=hdz ((dL.refl (N:=au) hm).stay (aX w (.cells #[.pointer p.q,.int .i64 p.n] 117) (.cells #[.pointer none,.int .i64 0] 117)));have HL:=hdz (af (hl.stay (aX w (.cells #[.pointer p.q,.int .i64 p.n] 117) (.cells #[.pointer none,.int .i64 0] 117))) (ht.stay (aX w (.cells #[.pointer p.q,.int .i64 p.n] 117) (.cells #[.pointer none,.int .i64 0] 117))));unfold lH at IH;have HI:=hdz IH;clear IH;have HN:=hdz (af hs (af h0 (af h1 (af h2 h3))));have HO:=hdz (af (show fZ (x::us) from hl.right) (af hr (af hk1 (af hk2 hlow))));clear hs hm h0 h1 h2 h3 hl hr ht hk1 hk2 hlow;go_enter Tryz.func318,Tryz.ntmps318
 go_wp2_with fail
 generalize (w.alloc (.cells #[.pointer p.q,.int .i64 p.n] 117)).alloc (.cells #[.pointer none,.int .i64 0] 117)=w1 at *;obtain ⟨a,ha⟩:=aU (w.heap.size);rw [←ha]at HF ⊢;have HA:=hdz ha;clear ha;obtain ⟨xa,hxa,hc⟩:=bN HL.out.1;have HC:=hdz hc;have TX:=hdz hxa;clear hc hxa;((with_reducible refine HC.out.mono ?_);rintro e w2 ⟨rfl,hb2⟩);have F2:=hdz (HF.out.stay hb2);have K2:=hdz (KK.out.stay hb2);have L2:=hdz (af (show aA w2 ⟨x::us⟩ p from HL.out.1.stay hb2) (af (HL.out.2.stay hb2) (TX.out.stay hb2)));have c0:=F2.out.h.c0;have c1:=F2.out.h.c1;obtain ⟨rx,hrx⟩:=aU (x.rank);obtain ⟨rt,hrt⟩:=aU (t.rank);have HR:=hdz (af hrx hrt);clear hb2 HF KK HL HC TX hrx hrt;go_wp2_with fail
 ((with_reducible refine (bC L2.out.2.2 rx HR.out.1).mono ?_);rintro e w3 ⟨rfl,hw3⟩);subst hw3;go_wp2_with fail
 ((with_reducible refine (bC L2.out.2.1 rt HR.out.2).mono ?_);rintro e w3 ⟨rfl,hw3⟩);subst hw3;by_cases heq:rx=rt
 ·have g1:((rx:Int) == (rt:Int))=true:=by simp;omega
  have g2:(rx:Int)=(rt:Int):=by omega
  have HQ:=hdz (show t.rank=x.rank by have:=HR.out;omega);clear heq;go_wp2_with fail
  ((with_reducible refine (bS x us p _ L2.out.1).mono ?_);rintro e w4 ⟨p4,rfl,IC,hb4⟩);have F4:=hdz (F2.out.stay hb4);have K4:=hdz (K2.out.stay hb4);have L4:=hdz (af IC (af (L2.out.2.1.stay hb4) (L2.out.2.2.stay hb4)));clear IC hb4 c0 c1 F2 K2 L2;go_wp2_with fail
  ((with_reducible refine (jy mo c m pa xa (some t) (some x) _ K4.out.mt HN.out.2.1 (by have:=HN.out;omega) HN.out.2.2.2.1 (by have:=HN.out;omega) L4.out.2.1 L4.out.2.2 (by have:=HN.out;simp only [bF,ah]at *;omega) (by have:=HN.out;simp only [bF,ah]at *;omega)).mono ?_);rintro e w5 ⟨p5,rfl,Ip,Im,hb5⟩);have F5:=hdz (F4.out.bt hb5 K4.out.mt);have K5:=hdz (K4.out.turn Im hb5 ax);have L5:=hdz (af (L4.out.1.bt hb5 K4.out.mt) (show gQ w5 p5 (some (fu t x)) from Ip));clear Ip Im hb5 F4 K4 L4;go_wp2_with fail
  have hp:=List.pairwise_cons.1 HO.out.2.1;have hlr:=fA HQ.out;have HI2:=hdz (HI.out (c+(bZ (some t) (some x):Nat)) (m+(bZ (some t) (some x):Nat)) (fu t x) p5 p4 _ (by rw [jJ];have:=HN.out;simp only [ah]at *;omega) K5.out.mt (by have:=HN.out;omega) (by have:=HN.out;simp only [List.length_cons,bZ]at *;omega) (by have:=HN.out;omega) (by have:=HN.out;simp only [List.length_cons,bZ]at *;omega) L5.out.1 hp.2 L5.out.2 (jm HO.out.2.2.1 (HO.out.1.hok x (List.mem_cons_self ..))) (nS HQ.out HO.out.2.2.2.1 (HO.out.1.sk x (List.mem_cons_self ..))) (fun y hy=>by rw [hlr,HQ.out];exact hp.1 y hy));clear hp hlr;((with_reducible refine HI2.out.mono ?_);rintro e w6 ⟨p6,rfl,Io,Iy,hb6⟩);have F6:=hdz (F5.out.bt hb6 K5.out.mt);have K6:=hdz (K5.out.turn Iy hb6 ax);have L6:=hdz Io;have z0:=F6.out.r.z0;have z1:=F6.out.r.z1;have r0:=F6.out.r.c0;have r1:=F6.out.r.c1;have s0:=(F6.out.r.set (.pointer p6.q) (.int .i64 p6.n)).c0;have s1:=(F6.out.r.set (.pointer p6.q) (.int .i64 p6.n)).c1;clear Io Iy hb6 HI2;go_wp2_with fail
  have k:=K6.out.eY F6.out.r aj (by decide) (by have:=HA.out;omega) (.pointer p6.q) (.int .i64 p6.n);have hlt:¬t.rank<x.rank:=by have:=HQ.out;omega
  have e0:dx (x::us) t=dx us (fu t x):=by rw [dx,if_neg hlt]
  have e3:bg (x::us) t=1+bg us (fu t x):=by rw [bg,if_neg hlt];try omega
  have e1:c+((bg (x::us) t:Nat):Int)=c+(bZ (some t) (some x):Nat)+(bg us (fu t x):Nat):=by rw [e3];simp only [bZ];omega
  have e2:m+((bg (x::us) t:Nat):Int)=m+(bZ (some t) (some x):Nat)+(bg us (fu t x):Nat):=by rw [e3];simp only [bZ];omega
  exact bodyPost_ret (v:=hp p6) (by simp [results,Tryz.results318,go_sem,s0,s1]) rfl ⟨p6,rfl,by rw [e0];exact L6.out.set2 F6.out.r aj _ _,by rw [e1,e2];exact k.mt,k.bt⟩
 ·have g1:((rx:Int) == (rt:Int))=false:=by simp;omega
  have g2:¬(rx:Int)=(rt:Int):=by omega
  have HQ:=hdz (show t.rank<x.rank by have h1:=HO.out.2.2.2.2 x (List.mem_cons_self ..);have:=HR.out;omega);clear heq;go_wp2_with fail
  clear c0 c1;((with_reducible refine (gN L2.out.1 L2.out.2.1 (by have:=HN.out;(try simp only [ah]at *);omega) (ug HO.out.2.2.1 HO.out.2.2.2.1 HO.out.1 HO.out.2.2.2.2 HO.out.2.1)).mono ?_);rintro e w6 ⟨p6,rfl,Io,hb6⟩);have F6:=hdz (F2.out.stay hb6);have K6:=hdz (K2.out.stay hb6);have L6:=hdz Io;have z0:=F6.out.r.z0;have z1:=F6.out.r.z1;have r0:=F6.out.r.c0;have r1:=F6.out.r.c1;have s0:=(F6.out.r.set (.pointer p6.q) (.int .i64 p6.n)).c0;have s1:=(F6.out.r.set (.pointer p6.q) (.int .i64 p6.n)).c1;clear Io hb6;go_wp2_with fail
  have k:=K6.out.eY F6.out.r aj (by decide) (by have:=HA.out;omega) (.pointer p6.q) (.int .i64 p6.n);have e0:dx (x::us) t=t::x::us:=by rw [dx,if_pos HQ.out]
  have e3:bg (x::us) t=0:=by rw [bg,if_pos HQ.out]
  exact bodyPost_ret (v:=hp p6) (by simp [results,Tryz.results318,go_sem,s0,s1]) rfl ⟨p6,rfl,by rw [e0];exact L6.out.set2 F6.out.r aj _ _,by rw [e3];simpa using k.mt,k.bt⟩
theorem oW (mo:Option Nat):∀ts:List ai,lH mo ts
 | []=>uN mo
 | x::us=>sN mo x us (oW mo us)
theorem kM (mo:Option Nat)(c m:Int)(t:ai)(ts:List ai)(pa:Option Addr)(p:HP)(w:World)(hs:t.size+ah ts<268435456)(hm:aW w mo c m)(h0:0≤c)(h1:c<1152921504338411520)(h2:0≤m)(h3:m<1152921504338411520)
  (hh:aA w ⟨ts⟩ p) (hr:rises ts) (hta:gQ w pa (some t)) (hk1:t.hok) (hk2:t.sk) (hlow:∀x∈ts,t.rank≤x.rank) :
  Calls Tryz.prog 318 #[hp p,aF mo,.pointer pa] w (bU mo (c+bg ts t) (m+bg ts t) ⟨dx ts t⟩ w) :=
 oW mo ts c m t pa p w hs hm h0 (by have:=bW ts;omega) h2 (by have:=bW ts;omega) hh hr hta hk1 hk2 hlow
theorem zF (mo:Option Nat)(c m:Int)(p:HP)(w:World)(hm:aW w mo c m)(h:aA w .nil p):Calls Tryz.prog 308 #[hp p,aF mo] w (bU mo c m .nil w):=by
 have HF:=hdz (F2.new w p);have KK:=hdz ((dL.refl (N:=au) hm).stay (aX w (.cells #[.pointer p.q,.int .i64 p.n] 117) (.cells #[.pointer none,.int .i64 0] 117)));have HL:=hdz (h.stay (aX w (.cells #[.pointer p.q,.int .i64 p.n] 117) (.cells #[.pointer none,.int .i64 0] 117)));clear hm h;go_enter Tryz.func308,Tryz.ntmps308
 go_wp2_with fail
 generalize (w.alloc (.cells #[.pointer p.q,.int .i64 p.n] 117)).alloc (.cells #[.pointer none,.int .i64 0] 117)=w1 at *;obtain ⟨a,ha⟩:=aU (w.heap.size);rw [←ha]at HF ⊢;have HA:=hdz ha;clear ha;((with_reducible refine (eB HL.out).mono ?_);rintro e w2 ⟨rfl,hb2⟩);have F2:=hdz (HF.out.stay hb2);have K2:=hdz (KK.out.stay hb2);have L2:=hdz (HL.out.stay hb2);have c0:=F2.out.h.c0;have c1:=F2.out.h.c1;have z0:=F2.out.r.z0;have z1:=F2.out.r.z1;have r0:=F2.out.r.c0;have r1:=F2.out.r.c1;have s0:=(F2.out.r.set (.pointer p.q) (.int .i64 p.n)).c0;have s1:=(F2.out.r.set (.pointer p.q) (.int .i64 p.n)).c1;clear hb2 HF KK HL;go_wp2_with fail
 have k:=K2.out.eY F2.out.r aj (by decide) (by have:=HA.out;omega) (.pointer p.q) (.int .i64 p.n);exact bodyPost_ret (v:=hp p) (by simp [results,Tryz.results308,go_sem,s0,s1]) rfl ⟨p,rfl,L2.out.set2 F2.out.r aj _ _,k.mt,k.bt⟩
theorem xK (mo:Option Nat)(c m:Int)(x:ai)(us:List ai)(p:HP)(w:World)(hs:ah (x::us)<268435456)(hm:aW w mo c m)(h0:0≤c)(h1:c<1152921504338411520)(h2:0≤m)(h3:m<1152921504338411520)(h:aA w ⟨x::us⟩ p) :
  Calls Tryz.prog 308 #[hp p,aF mo] w (bU mo (c+bg us x) (m+bg us x) ⟨dx us x⟩ w):=by
 have HF:=hdz (F2.new w p);have KK:=hdz ((dL.refl (N:=au) hm).stay (aX w (.cells #[.pointer p.q,.int .i64 p.n] 117) (.cells #[.pointer none,.int .i64 0] 117)));have HL:=hdz (h.stay (aX w (.cells #[.pointer p.q,.int .i64 p.n] 117) (.cells #[.pointer none,.int .i64 0] 117)));have HO:=hdz (show fZ (x::us) from h.right);have HU:=hdz (show (∀u∈us,x.rank≤u.rank)∧rises us from h.right.up);have HN:=hdz (af hs (af h0 (af h1 (af h2 h3))));clear hm h hs h0 h1 h2 h3;go_enter Tryz.func308,Tryz.ntmps308
 go_wp2_with fail
 generalize (w.alloc (.cells #[.pointer p.q,.int .i64 p.n] 117)).alloc (.cells #[.pointer none,.int .i64 0] 117)=w1 at *;obtain ⟨a,ha⟩:=aU (w.heap.size);rw [←ha]at HF ⊢;have HA:=hdz ha;clear ha;obtain ⟨xa,hxa,hc⟩:=bN HL.out;have HC:=hdz hc;have TX:=hdz hxa;clear hc hxa;((with_reducible refine HC.out.mono ?_);rintro e w2 ⟨rfl,hb2⟩);have F2:=hdz (HF.out.stay hb2);have K2:=hdz (KK.out.stay hb2);have L2:=hdz (af (show aA w2 ⟨x::us⟩ p from HL.out.stay hb2) (TX.out.stay hb2));have c0:=F2.out.h.c0;have c1:=F2.out.h.c1;clear hb2 HF KK HL HC TX;go_wp2_with fail
 ((with_reducible refine (bS x us p _ L2.out.1).mono ?_);rintro e w4 ⟨p4,rfl,IC,hb4⟩);have F4:=hdz (F2.out.stay hb4);have K4:=hdz (K2.out.stay hb4);have L4:=hdz (af IC (L2.out.2.stay hb4));clear IC hb4 c0 c1 F2 K2 L2;go_wp2_with fail
 ((with_reducible refine (kM mo c m x us xa p4 _ (by have:=HN.out.1;simp only [ah]at this;omega) K4.out.mt HN.out.2.1 HN.out.2.2.1 HN.out.2.2.2.1 HN.out.2.2.2.2 L4.out.1 HU.out.2 L4.out.2 (HO.out.hok x (List.mem_cons_self ..)) (HO.out.sk x (List.mem_cons_self ..)) HU.out.1).mono ?_);rintro e w6 ⟨p6,rfl,Io,Iy,hb6⟩);have F6:=hdz (F4.out.bt hb6 K4.out.mt);have K6:=hdz (K4.out.turn Iy hb6 ax);have L6:=hdz Io;have z0:=F6.out.r.z0;have z1:=F6.out.r.z1;have r0:=F6.out.r.c0;have r1:=F6.out.r.c1;have s0:=(F6.out.r.set (.pointer p6.q) (.int .i64 p6.n)).c0;have s1:=(F6.out.r.set (.pointer p6.q) (.int .i64 p6.n)).c1;clear Io Iy hb6;go_wp2_with fail
 have k:=K6.out.eY F6.out.r aj (by decide) (by have:=HA.out;omega) (.pointer p6.q) (.int .i64 p6.n);exact bodyPost_ret (v:=hp p6) (by simp [results,Tryz.results308,go_sem,s0,s1]) rfl ⟨p6,rfl,L6.out.set2 F6.out.r aj _ _,k.mt,k.bt⟩
theorem tL (mo:Option Nat)(c m:Int)(l:List ai)(p:HP)(w:World)(hs:ah l<268435456)(hm:aW w mo c m)(h0:0≤c)(h1:c<1152921504338411520)(h2:0≤m)(h3:m<1152921504338411520)(h:aA w ⟨l⟩ p) :
  Calls Tryz.prog 308 #[hp p,aF mo] w (bU mo (c+gT l) (m+gT l) ⟨dF l⟩ w):=by
 cases l with
 | nil=>exact (zF mo c m p w hm h).mono fun e w' hh=>by simpa [gT,dF,Lh.nil] using hh
 | cons x us=>exact xK mo c m x us p w hs hm h0 h1 h2 h3 h
end Go.Proofs.YtmeodbjlmjpnbaaGreat.Sk.Hp
namespace Go.Proofs.YtmeodbjlmjpnbaaGreat.Sk.Hp
open Go.Sort Go.RowKit
theorem j6 {P:Program}{c:Code}{a:Act}{w:World}{Q:Exit→Act→World→Prop}(R:Act→Act→World→Prop)(h1:c.wp P (fun e a' w'=>e=.normal∧R a a' w') a w)(h2:∀a' w',R a a' w'→Q .normal a' w'):c.wp P Q a w :=
 Code.wp_mono (fun e a' w' h=>by obtain ⟨rfl,hr⟩:=h;exact h2 a' w' hr) h1
structure Fm (W:World)(a:Nat)(p q:HP):Prop where
 h:aB W a 117 (.pointer p.q) (.int .i64 p.n)
 o:aB W (a+1) 117 (.pointer q.q) (.int .i64 q.n)
 r:aB W (a+2) 117 (.pointer none) (.int .i64 0)
section
variable {W W':World}{a:Nat}{p q:HP}{mo:Option Nat}{c m:Int}
theorem Fm.new (w:World)(p q:HP):Fm (((w.alloc (.cells #[.pointer p.q,.int .i64 p.n] 117)).alloc (.cells #[.pointer q.q,.int .i64 q.n] 117)).alloc (.cells #[.pointer none,.int .i64 0] 117)) w.heap.size p q:=by
 refine ⟨((aB.new w 117 _ _).alloc _).alloc _,?_,?_⟩
 ·have:=(aB.new (w.alloc (.cells #[.pointer p.q,.int .i64 p.n] 117)) 117 (.pointer q.q) (.int .i64 q.n)).alloc (.cells #[.pointer none,.int .i64 0] 117);simpa only [World.size_alloc] using this
 ·have:=aB.new ((w.alloc (.cells #[.pointer p.q,.int .i64 p.n] 117)).alloc (.cells #[.pointer q.q,.int .i64 q.n] 117)) 117 (.pointer none) (.int .i64 0);simpa only [World.size_alloc] using this
theorem Fm.stay (h:Fm W a p q)(hb:Below W.heap.size W W'):Fm W' a p q:=⟨h.h.stay hb,h.o.stay hb,h.r.stay hb⟩
theorem Fm.bt (h:Fm W a p q)(hb:Bt mo W W')(hm:aW W mo c m):Fm W' a p q:=⟨h.h.bt hb hm (by decide),h.o.bt hb hm (by decide),h.r.bt hb hm (by decide)⟩
end
theorem aY (w:World)(x y z:Obj):Below w.heap.size w (((w.alloc x).alloc y).alloc z):=(((Below.refl _ w).alloc (Nat.le_refl _) _).alloc (by simp) _).alloc (by simp;omega) _
def bQ (mo:Option Nat)(la bs:List ai):Prop:=∀(c m:Int) (p q:HP) (w:World),ah la+ah bs<268435456→aW w mo c m→0≤c→c<576460752303423488→0≤m→m<576460752303423488→aA w ⟨la⟩ p→aA w ⟨bs⟩ q→rises la→rises bs →
 Calls Tryz.prog 309 #[hp p,aF mo,hp q] w (bU mo (c+aI la bs) (m+aI la bs) ⟨aP la bs⟩ w)
theorem ja (mo:Option Nat)(bs:List ai):bQ mo ([]) (bs):=by
 intro c m p q w hs hm h0 h1 h2 h3 ha hb ra rb;have HL:=hdz (af ha hb);have HRS:=hdz (af ra rb);have HF:=hdz (Fm.new w p q);have KK:=hdz ((dL.refl (N:=au) hm).stay (aY w (.cells #[.pointer p.q,.int .i64 p.n] 117) (.cells #[.pointer q.q,.int .i64 q.n] 117) (.cells #[.pointer none,.int .i64 0] 117)));have HN:=hdz (af hs (af h0 (af h1 (af h2 h3))));clear hs h0 h1 h2 h3 hm ha hb ra rb;go_enter Tryz.func309,Tryz.ntmps309
 go_wp2_with fail
 generalize ((w.alloc (.cells #[.pointer p.q,.int .i64 p.n] 117)).alloc (.cells #[.pointer q.q,.int .i64 q.n] 117)).alloc (.cells #[.pointer none,.int .i64 0] 117)=w1 at *;obtain ⟨a,ha⟩:=aU (w.heap.size);rw [←ha]at HF ⊢;have HA:=hdz ha;clear ha;((with_reducible refine (eB (HL.out.1.fQ KK.out.kp KK.out.bt.size)).mono ?_);rintro e w2 ⟨rfl,hb2⟩);have F2:=hdz (HF.out.stay hb2);have K2:=hdz (KK.out.stay hb2);have c0:=F2.out.o.c0;have c1:=F2.out.o.c1;have z0:=F2.out.r.z0;have z1:=F2.out.r.z1;have r0:=F2.out.r.c0;have r1:=F2.out.r.c1;have s0:=(F2.out.r.set (.pointer q.q) (.int .i64 q.n)).c0;have s1:=(F2.out.r.set (.pointer q.q) (.int .i64 q.n)).c1;clear hb2 HF KK;go_wp2_with fail
 have k:=K2.out.eY F2.out.r aj (by decide) (by have:=HA.out;omega) (.pointer q.q) (.int .i64 q.n);exact bodyPost_ret (v:=hp q) (by simp [results,Tryz.results309,go_sem,s0,s1]) rfl ⟨q,rfl,by rw [eU];exact HL.out.2.fQ k.kp k.bt.size,by rw [iH];simpa using k.mt,k.bt⟩
theorem ig (mo:Option Nat)(f:ai)(la:List ai):bQ mo (f::la) ([]):=by
 intro c m p q w hs hm h0 h1 h2 h3 ha hb ra rb;have HL:=hdz (af ha hb);have HRS:=hdz (af ra rb);have HF:=hdz (Fm.new w p q);have KK:=hdz ((dL.refl (N:=au) hm).stay (aY w (.cells #[.pointer p.q,.int .i64 p.n] 117) (.cells #[.pointer q.q,.int .i64 q.n] 117) (.cells #[.pointer none,.int .i64 0] 117)));have HN:=hdz (af hs (af h0 (af h1 (af h2 h3))));clear hs h0 h1 h2 h3 hm ha hb ra rb;go_enter Tryz.func309,Tryz.ntmps309
 go_wp2_with fail
 generalize ((w.alloc (.cells #[.pointer p.q,.int .i64 p.n] 117)).alloc (.cells #[.pointer q.q,.int .i64 q.n] 117)).alloc (.cells #[.pointer none,.int .i64 0] 117)=w1 at *;obtain ⟨a,ha⟩:=aU (w.heap.size);rw [←ha]at HF ⊢;have HA:=hdz ha;clear ha;obtain ⟨fa,hfa,hc⟩:=bN (HL.out.1.fQ KK.out.kp KK.out.bt.size);have HC:=hdz hc;have TF:=hdz hfa;clear hc hfa;((with_reducible refine HC.out.mono ?_);rintro e w2 ⟨rfl,hb2⟩);have F2:=hdz (HF.out.stay hb2);have K2:=hdz (KK.out.stay hb2);have T2:=hdz (TF.out.stay hb2);have c0:=F2.out.o.c0;have c1:=F2.out.o.c1;clear hb2 HF KK HC TF;go_wp2_with fail
 clear c0 c1;((with_reducible refine (eB (HL.out.2.fQ K2.out.kp K2.out.bt.size)).mono ?_);rintro e w3 ⟨rfl,hb3⟩);have F3:=hdz (F2.out.stay hb3);have K3:=hdz (K2.out.stay hb3);have c0:=F3.out.h.c0;have c1:=F3.out.h.c1;have z0:=F3.out.r.z0;have z1:=F3.out.r.z1;have r0:=F3.out.r.c0;have r1:=F3.out.r.c1;have s0:=(F3.out.r.set (.pointer p.q) (.int .i64 p.n)).c0;have s1:=(F3.out.r.set (.pointer p.q) (.int .i64 p.n)).c1;clear hb3 F2 K2 T2;go_wp2_with fail
 have k:=K3.out.eY F3.out.r aj (by decide) (by have:=HA.out;omega) (.pointer p.q) (.int .i64 p.n);exact bodyPost_ret (v:=hp p) (by simp [results,Tryz.results309,go_sem,s0,s1]) rfl ⟨p,rfl,by rw [dM];exact HL.out.1.fQ k.kp k.bt.size,by rw [gq];simpa using k.mt,k.bt⟩
theorem fw (mo:Option Nat)(f g:ai)(la bs:List ai)(hlt:f.rank<g.rank)(IH:bQ mo la (g::bs)):bQ mo (f::la) (g::bs):=by
 intro c m p q w hs hm h0 h1 h2 h3 ha hb ra rb;have HL:=hdz (af ha hb);have HRS:=hdz (af ra rb);have HF:=hdz (Fm.new w p q);have KK:=hdz ((dL.refl (N:=au) hm).stay (aY w (.cells #[.pointer p.q,.int .i64 p.n] 117) (.cells #[.pointer q.q,.int .i64 q.n] 117) (.cells #[.pointer none,.int .i64 0] 117)));unfold bQ at IH;have HI:=hdz IH;have HB1:=hdz (eu (f::la) (g::bs) ha.right.hok hb.right.hok ha.right.sk hb.right.sk ra rb);have HE:=hdz (af (iE hlt:aP (f::la) (g::bs)=_) (jR hlt:aI (f::la) (g::bs)=_));have hsz:=fe (f::la) (g::bs);rw [HE.out.1]at hsz;simp only [ah]at hs hsz;have HZ:=hdz hsz;clear hsz IH;have HN:=hdz (af hs (af h0 (af h1 (af h2 h3))));clear hs h0 h1 h2 h3 hm ha hb ra rb;go_enter Tryz.func309,Tryz.ntmps309
 go_wp2_with fail
 generalize ((w.alloc (.cells #[.pointer p.q,.int .i64 p.n] 117)).alloc (.cells #[.pointer q.q,.int .i64 q.n] 117)).alloc (.cells #[.pointer none,.int .i64 0] 117)=w1 at *;obtain ⟨a,ha⟩:=aU (w.heap.size);rw [←ha]at HF ⊢;have HA:=hdz ha;clear ha;obtain ⟨fa,hfa,hc⟩:=bN (HL.out.1.fQ KK.out.kp KK.out.bt.size);have HC:=hdz hc;have TF:=hdz hfa;clear hc hfa;((with_reducible refine HC.out.mono ?_);rintro e w2 ⟨rfl,hb2⟩);have F2:=hdz (HF.out.stay hb2);have K2:=hdz (KK.out.stay hb2);have T2:=hdz (TF.out.stay hb2);have c0:=F2.out.o.c0;have c1:=F2.out.o.c1;clear hb2 HF KK HC TF;go_wp2_with fail
 clear c0 c1;obtain ⟨ga,hga,hc⟩:=bN (HL.out.2.fQ K2.out.kp K2.out.bt.size);have HC:=hdz hc;have TG:=hdz hga;clear hc hga;((with_reducible refine HC.out.mono ?_);rintro e w3 ⟨rfl,hb3⟩);have F3:=hdz (F2.out.stay hb3);have K3:=hdz (K2.out.stay hb3);have T3:=hdz (af (T2.out.stay hb3) (TG.out.stay hb3));clear hb3 F2 K2 T2 HC TG;obtain ⟨rf,hrf⟩:=aU (f.rank);obtain ⟨rg,hrg⟩:=aU (g.rank);have HRK:=hdz (af hrf hrg);rw [←hrf,←hrg]at hlt;clear hrf hrg;go_wp2_with fail
 ((with_reducible refine (bC T3.out.1 rf HRK.out.1).mono ?_);rintro e w4 ⟨rfl,hw4⟩);subst hw4;go_wp2_with fail
 have d0:decide ((rf:Int)<(rg:Int))=true:=by first|omega|(simp;omega)|rfl
 have d1:decide (rf<rg)=true:=by first|omega|(simp;omega)|rfl
 have d2:(rf:Int)<(rg:Int):=by first|omega|(simp;omega)|rfl
 have d3:rf<rg:=by first|omega|(simp;omega)|rfl
 ((with_reducible refine (bC T3.out.2 rg HRK.out.2).mono ?_);rintro e w4 ⟨rfl,hw4⟩);subst hw4;go_wp2_with fail
 have s3_0:=F3.out.h.c0;have s3_1:=F3.out.h.c1;have s3_2:=F3.out.o.c0;have s3_3:=F3.out.o.c1;have TT:=hdz (T3.out.1);have hfd:=jq;have n5:¬a=a+1+1:=by omega
 have n6:¬a+1+1=a:=by omega
 go_region_held3 (fun w'=>w'.cell? ⟨a,0,none⟩=some (.pointer p.q)∧w'.cell? ⟨a,1,none⟩=some (.int .i64 p.n)∧w'.cell? ⟨a+1,0,none⟩=some (.pointer q.q)∧w'.cell? ⟨a+1,1,none⟩=some (.int .i64 q.n)) (go_keep)
  (first|(go_at_call 145;((with_reducible refine (gN L5.out (TK.out) (by have:=HN.out;have:=HZ.out;omega) (HE.out.1▸⟨HB1.out.1,HB1.out.2.1,iy HB1.out.2.2.1⟩)).mono ?_);rintro e w6 ⟨p6,rfl,Io,hb6⟩;have F6:=hdz (F5.out.stay hb6);have K6:=hdz (K5.out.stay hb6);have L6:=hdz Io;have s6_0:=F6.out.h.c0;have s6_1:=F6.out.h.c1;have s6_2:=F6.out.o.c0;have s6_3:=F6.out.o.c1;have z0:=F6.out.r.z0;have z1:=F6.out.r.z1;have r0:=F6.out.r.c0;have r1:=F6.out.r.c1;clear Io hb6))|(go_at_call 317;((with_reducible refine (bS f la p _ ((HL.out.1.fQ K3.out.drew.kp K3.out.drew.bt.size))).mono ?_);rintro e w4 ⟨p4,rfl,IC,hb4⟩;have F4:=hdz ((F3.out.stay ((Below.refl _ _).drew)).stay hb4);have K4:=hdz (K3.out.drew.stay hb4);have L4:=hdz IC;have TT4:=hdz ((TT.out.stay ((Below.refl _ _).drew)).stay hb4);have s4_0:=F4.out.h.c0;have s4_1:=F4.out.h.c1;have s4_2:=F4.out.o.c0;have s4_3:=F4.out.o.c1;clear IC hb4))|(go_at_call 309;((with_reducible refine (HI.out c m p4 q _ (by have:=HN.out;(try simp only [ah]);omega) K4.out.mt HN.out.2.1 HN.out.2.2.1 HN.out.2.2.2.1 HN.out.2.2.2.2 L4.out (HL.out.2.fQ K4.out.kp K4.out.bt.size) (List.pairwise_cons.1 HRS.out.1).2 HRS.out.2).mono ?_);rintro e w5 ⟨p5,rfl,Ip,Im,hb5⟩;have F5:=hdz (F4.out.bt hb5 K4.out.mt);have K5:=hdz (K4.out.turn Im hb5 ax);have L5:=hdz Ip;have TK:=hdz ((TT4.out).kp (Kp.tree (Kp.bt hb5 K4.out.mt)));have s5_0:=F5.out.h.c0;have s5_1:=F5.out.h.c1;have s5_2:=F5.out.o.c0;have s5_3:=F5.out.o.c1;clear Ip Im hb5)))
 go_wp2_with fail
 have s0:=(F6.out.r.set (.pointer p6.q) (.int .i64 p6.n)).c0;have s1:=(F6.out.r.set (.pointer p6.q) (.int .i64 p6.n)).c1;have k:=K6.out.eY F6.out.r aj (by decide) (by have:=HA.out;omega) (.pointer p6.q) (.int .i64 p6.n);exact bodyPost_ret (v:=hp p6) (by simp [results,Tryz.results309,go_sem,s0,s1]) rfl ⟨p6,rfl,by rw [HE.out.1];exact L6.out.set2 F6.out.r aj _ _,by rw [HE.out.2];exact k.mt,k.bt⟩
theorem um (mo:Option Nat)(f g:ai)(la bs:List ai)(hlt:g.rank<f.rank)(IH:bQ mo (f::la) bs):bQ mo (f::la) (g::bs):=by
 intro c m p q w hs hm h0 h1 h2 h3 ha hb ra rb;have HL:=hdz (af ha hb);have HRS:=hdz (af ra rb);have HF:=hdz (Fm.new w p q);have KK:=hdz ((dL.refl (N:=au) hm).stay (aY w (.cells #[.pointer p.q,.int .i64 p.n] 117) (.cells #[.pointer q.q,.int .i64 q.n] 117) (.cells #[.pointer none,.int .i64 0] 117)));unfold bQ at IH;have HI:=hdz IH;have HB1:=hdz (eu (f::la) (g::bs) ha.right.hok hb.right.hok ha.right.sk hb.right.sk ra rb);have HE:=hdz (af (iK hlt:aP (f::la) (g::bs)=_) (kP hlt:aI (f::la) (g::bs)=_));have hsz:=fe (f::la) (g::bs);rw [HE.out.1]at hsz;simp only [ah]at hs hsz;have HZ:=hdz hsz;clear hsz IH;have HN:=hdz (af hs (af h0 (af h1 (af h2 h3))));clear hs h0 h1 h2 h3 hm ha hb ra rb;go_enter Tryz.func309,Tryz.ntmps309
 go_wp2_with fail
 generalize ((w.alloc (.cells #[.pointer p.q,.int .i64 p.n] 117)).alloc (.cells #[.pointer q.q,.int .i64 q.n] 117)).alloc (.cells #[.pointer none,.int .i64 0] 117)=w1 at *;obtain ⟨a,ha⟩:=aU (w.heap.size);rw [←ha]at HF ⊢;have HA:=hdz ha;clear ha;obtain ⟨fa,hfa,hc⟩:=bN (HL.out.1.fQ KK.out.kp KK.out.bt.size);have HC:=hdz hc;have TF:=hdz hfa;clear hc hfa;((with_reducible refine HC.out.mono ?_);rintro e w2 ⟨rfl,hb2⟩);have F2:=hdz (HF.out.stay hb2);have K2:=hdz (KK.out.stay hb2);have T2:=hdz (TF.out.stay hb2);have c0:=F2.out.o.c0;have c1:=F2.out.o.c1;clear hb2 HF KK HC TF;go_wp2_with fail
 clear c0 c1;obtain ⟨ga,hga,hc⟩:=bN (HL.out.2.fQ K2.out.kp K2.out.bt.size);have HC:=hdz hc;have TG:=hdz hga;clear hc hga;((with_reducible refine HC.out.mono ?_);rintro e w3 ⟨rfl,hb3⟩);have F3:=hdz (F2.out.stay hb3);have K3:=hdz (K2.out.stay hb3);have T3:=hdz (af (T2.out.stay hb3) (TG.out.stay hb3));clear hb3 F2 K2 T2 HC TG;obtain ⟨rf,hrf⟩:=aU (f.rank);obtain ⟨rg,hrg⟩:=aU (g.rank);have HRK:=hdz (af hrf hrg);rw [←hrf,←hrg]at hlt;clear hrf hrg;go_wp2_with fail
 ((with_reducible refine (bC T3.out.1 rf HRK.out.1).mono ?_);rintro e w4 ⟨rfl,hw4⟩);subst hw4;go_wp2_with fail
 have d0:decide ((rf:Int)<(rg:Int))=false:=by first|omega|(simp;omega)|rfl
 have d1:decide (rf<rg)=false:=by first|omega|(simp;omega)|rfl
 have d2:¬(rf:Int)<(rg:Int):=by first|omega|(simp;omega)|rfl
 have d3:¬rf<rg:=by first|omega|(simp;omega)|rfl
 ((with_reducible refine (bC T3.out.2 rg HRK.out.2).mono ?_);rintro e w4 ⟨rfl,hw4⟩);subst hw4;go_wp2_with fail
 clear d0 d1 d2 d3;((with_reducible refine (bC T3.out.2 rg HRK.out.2).mono ?_);rintro e w4 ⟨rfl,hw4⟩);subst hw4;go_wp2_with fail
 have d0:decide ((rg:Int)<(rf:Int))=true:=by first|omega|(simp;omega)|rfl
 have d1:decide (rg<rf)=true:=by first|omega|(simp;omega)|rfl
 have d2:(rg:Int)<(rf:Int):=by first|omega|(simp;omega)|rfl
 have d3:rg<rf:=by first|omega|(simp;omega)|rfl
 ((with_reducible refine (bC T3.out.1 rf HRK.out.1).mono ?_);rintro e w4 ⟨rfl,hw4⟩);subst hw4;go_wp2_with fail
 have s3_0:=F3.out.h.c0;have s3_1:=F3.out.h.c1;have s3_2:=F3.out.o.c0;have s3_3:=F3.out.o.c1;have TT:=hdz (T3.out.2);have hfd:=jq;have n5:¬a=a+1+1:=by omega
 have n6:¬a+1+1=a:=by omega
 go_region_held3 (fun w'=>w'.cell? ⟨a,0,none⟩=some (.pointer p.q)∧w'.cell? ⟨a,1,none⟩=some (.int .i64 p.n)∧w'.cell? ⟨a+1,0,none⟩=some (.pointer q.q)∧w'.cell? ⟨a+1,1,none⟩=some (.int .i64 q.n)) (go_keep)
  (first|(go_at_call 145;((with_reducible refine (gN L5.out (TK.out) (by have:=HN.out;have:=HZ.out;omega) (HE.out.1▸⟨HB1.out.1,HB1.out.2.1,iy HB1.out.2.2.1⟩)).mono ?_);rintro e w6 ⟨p6,rfl,Io,hb6⟩;have F6:=hdz (F5.out.stay hb6);have K6:=hdz (K5.out.stay hb6);have L6:=hdz Io;have s6_0:=F6.out.h.c0;have s6_1:=F6.out.h.c1;have s6_2:=F6.out.o.c0;have s6_3:=F6.out.o.c1;have z0:=F6.out.r.z0;have z1:=F6.out.r.z1;have r0:=F6.out.r.c0;have r1:=F6.out.r.c1;clear Io hb6))|(go_at_call 317;((with_reducible refine (bS g bs q _ ((HL.out.2.fQ K3.out.drew.kp K3.out.drew.bt.size))).mono ?_);rintro e w4 ⟨p4,rfl,IC,hb4⟩;have F4:=hdz ((F3.out.stay ((Below.refl _ _).drew)).stay hb4);have K4:=hdz (K3.out.drew.stay hb4);have L4:=hdz IC;have TT4:=hdz ((TT.out.stay ((Below.refl _ _).drew)).stay hb4);have s4_0:=F4.out.h.c0;have s4_1:=F4.out.h.c1;have s4_2:=F4.out.o.c0;have s4_3:=F4.out.o.c1;clear IC hb4))|(go_at_call 309;((with_reducible refine (HI.out c m p p4 _ (by have:=HN.out;(try simp only [ah]);omega) K4.out.mt HN.out.2.1 HN.out.2.2.1 HN.out.2.2.2.1 HN.out.2.2.2.2 (HL.out.1.fQ K4.out.kp K4.out.bt.size) L4.out HRS.out.1 (List.pairwise_cons.1 HRS.out.2).2).mono ?_);rintro e w5 ⟨p5,rfl,Ip,Im,hb5⟩;have F5:=hdz (F4.out.bt hb5 K4.out.mt);have K5:=hdz (K4.out.turn Im hb5 ax);have L5:=hdz Ip;have TK:=hdz ((TT4.out).kp (Kp.tree (Kp.bt hb5 K4.out.mt)));have s5_0:=F5.out.h.c0;have s5_1:=F5.out.h.c1;have s5_2:=F5.out.o.c0;have s5_3:=F5.out.o.c1;clear Ip Im hb5)))
 go_wp2_with fail
 have s0:=(F6.out.r.set (.pointer p6.q) (.int .i64 p6.n)).c0;have s1:=(F6.out.r.set (.pointer p6.q) (.int .i64 p6.n)).c1;have k:=K6.out.eY F6.out.r aj (by decide) (by have:=HA.out;omega) (.pointer p6.q) (.int .i64 p6.n);exact bodyPost_ret (v:=hp p6) (by simp [results,Tryz.results309,go_sem,s0,s1]) rfl ⟨p6,rfl,by rw [HE.out.1];exact L6.out.set2 F6.out.r aj _ _,by rw [HE.out.2];exact k.mt,k.bt⟩
theorem uJ (mo:Option Nat)(f g:ai)(la bs:List ai)(hlt:f.rank=g.rank)(IH:bQ mo la bs):bQ mo (f::la) (g::bs):=by
 intro c m p q w hs hm h0 h1 h2 h3 ha hb ra rb;have HL:=hdz (af ha hb);have HRS:=hdz (af ra rb);have HF:=hdz (Fm.new w p q);have KK:=hdz ((dL.refl (N:=au) hm).stay (aY w (.cells #[.pointer p.q,.int .i64 p.n] 117) (.cells #[.pointer q.q,.int .i64 q.n] 117) (.cells #[.pointer none,.int .i64 0] 117)));unfold bQ at IH;have HI:=hdz IH;have HEQ:=hdz hlt;have HB1:=hdz (af (show fZ (f::la) from ha.right) (show fZ (g::bs) from hb.right));have HE:=hdz (af (iD hlt:aP (f::la) (g::bs)=_) (jO hlt:aI (f::la) (g::bs)=_));have hsz:=fe la bs;have hln:=kH la bs;have hl1:=bW la;have hl2:=bW bs;simp only [ah]at hs;have HZ:=hdz (show ah (aP la bs)=ah la+ah bs∧aI la bs<268435456 from ⟨hsz,by simp only [ai.size]at hs;omega⟩);clear hsz IH hln hl1 hl2;have HN:=hdz (af hs (af h0 (af h1 (af h2 h3))));clear hs h0 h1 h2 h3 hm ha hb ra rb;go_enter Tryz.func309,Tryz.ntmps309
 go_wp2_with fail
 generalize ((w.alloc (.cells #[.pointer p.q,.int .i64 p.n] 117)).alloc (.cells #[.pointer q.q,.int .i64 q.n] 117)).alloc (.cells #[.pointer none,.int .i64 0] 117)=w1 at *;obtain ⟨a,ha⟩:=aU (w.heap.size);rw [←ha]at HF ⊢;have HA:=hdz ha;clear ha;obtain ⟨fa,hfa,hc⟩:=bN (HL.out.1.fQ KK.out.kp KK.out.bt.size);have HC:=hdz hc;have TF:=hdz hfa;clear hc hfa;((with_reducible refine HC.out.mono ?_);rintro e w2 ⟨rfl,hb2⟩);have F2:=hdz (HF.out.stay hb2);have K2:=hdz (KK.out.stay hb2);have T2:=hdz (TF.out.stay hb2);have c0:=F2.out.o.c0;have c1:=F2.out.o.c1;clear hb2 HF KK HC TF;go_wp2_with fail
 clear c0 c1;obtain ⟨ga,hga,hc⟩:=bN (HL.out.2.fQ K2.out.kp K2.out.bt.size);have HC:=hdz hc;have TG:=hdz hga;clear hc hga;((with_reducible refine HC.out.mono ?_);rintro e w3 ⟨rfl,hb3⟩);have F3:=hdz (F2.out.stay hb3);have K3:=hdz (K2.out.stay hb3);have T3:=hdz (af (T2.out.stay hb3) (TG.out.stay hb3));clear hb3 F2 K2 T2 HC TG;obtain ⟨rf,hrf⟩:=aU (f.rank);obtain ⟨rg,hrg⟩:=aU (g.rank);have HRK:=hdz (af hrf hrg);rw [←hrf,←hrg]at hlt;clear hrf hrg;go_wp2_with fail
 ((with_reducible refine (bC T3.out.1 rf HRK.out.1).mono ?_);rintro e w4 ⟨rfl,hw4⟩);subst hw4;go_wp2_with fail
 have d0:decide ((rf:Int)<(rg:Int))=false:=by first|omega|(simp;omega)|rfl
 have d1:decide (rf<rg)=false:=by first|omega|(simp;omega)|rfl
 have d2:¬(rf:Int)<(rg:Int):=by first|omega|(simp;omega)|rfl
 have d3:¬rf<rg:=by first|omega|(simp;omega)|rfl
 ((with_reducible refine (bC T3.out.2 rg HRK.out.2).mono ?_);rintro e w4 ⟨rfl,hw4⟩);subst hw4;go_wp2_with fail
 clear d0 d1 d2 d3;((with_reducible refine (bC T3.out.2 rg HRK.out.2).mono ?_);rintro e w4 ⟨rfl,hw4⟩);subst hw4;go_wp2_with fail
 have d0:decide ((rg:Int)<(rf:Int))=false:=by first|omega|(simp;omega)|rfl
 have d1:decide (rg<rf)=false:=by first|omega|(simp;omega)|rfl
 have d2:¬(rg:Int)<(rf:Int):=by first|omega|(simp;omega)|rfl
 have d3:¬rg<rf:=by first|omega|(simp;omega)|rfl
 ((with_reducible refine (bC T3.out.1 rf HRK.out.1).mono ?_);rintro e w4 ⟨rfl,hw4⟩);subst hw4;go_wp2_with fail
 clear d0 d1 d2 d3 hlt;refine j6 (R:=fun x x' w' => ∃(u59 u60 u61 u62 u63 u64:Value) (v:Nat) (p5:HP),x'=(((((((x.put (some 59) u59).put (some 60) u60).put (some 61) u61).put (some 62) u62).put (some 63) u63).put (some 64) u64).put (some 10) (.pointer (some ⟨v,0,none⟩)))∧Bt mo w4 w'∧aW w' mo (c+(aI la bs:Nat)) (m+(aI la bs:Nat))∧w4.heap.size≤v∧aB w' v 117 (.pointer p5.q) (.int .i64 p5.n)∧aA w' ⟨aP la bs⟩ p5) ?_ ?_
 ·have HS:=hdz (fun (w':World) (hz:Bt mo w4 w')=>(show w'.cell? ⟨a,0,none⟩=some (.pointer p.q)∧w'.cell? ⟨a,1,none⟩=some (.int .i64 p.n)∧w'.cell? ⟨a+1,0,none⟩=some (.pointer q.q)∧w'.cell? ⟨a+1,1,none⟩=some (.int .i64 q.n) from ⟨(F3.out.bt hz K3.out.mt).h.c0,(F3.out.bt hz K3.out.mt).h.c1,(F3.out.bt hz K3.out.mt).o.c0,(F3.out.bt hz K3.out.mt).o.c1⟩));have hB:=(Bt.refl mo w4).drew;have hM:=K3.out.mt.drew;have IE:=HL.out.1.fQ K3.out.drew.kp K3.out.drew.bt.size;have Iq:=HL.out.2.fQ K3.out.drew.kp K3.out.drew.bt.size;refine wp_region_noPanic ?_;refine wp_region_held_drew (S:=fun w'=>w'.cell? ⟨a,0,none⟩=some (.pointer p.q)∧w'.cell? ⟨a,1,none⟩=some (.int .i64 p.n)∧w'.cell? ⟨a+1,0,none⟩=some (.pointer q.q)∧w'.cell? ⟨a+1,1,none⟩=some (.int .i64 q.n)) (by kernel_rfl) (HS.out _ hB) (fun hH=>?_);generalize w4.drew=wd at *;refine tk 0 hH ?_;try simp only [aZ]
  refine tk 2 hH ?_;try simp only [aZ]
  refine tk 3 hH ?_;try simp only [aZ]
  refine uw 1 6 (fun K hK=>?_) (fun K hK=>?_)
  ·go_simp;go_at_call 317
   (with_reducible refine (bS f la p _ IE).mono ?_);rintro e w5 ⟨p1,rfl,ht1,hb⟩;replace Iq:=Iq.stay hb;replace hB:=hB.trans (Bt.aV hb);replace hM:=hM.stay hb;clear hb IE;refine hK.out _ _ ?_ (fun hH2=>?_)
   ·exact HS.out _ hB
   clear hK K hH;have hH:=hH2;clear hH2;try simp only [aZ]
   refine uw 4 6 (fun K hK=>?_) (fun K hK=>?_)
   ·go_simp;go_at_call 317
    (with_reducible refine (bS g bs q _ Iq).mono ?_);rintro e w6 ⟨p2,rfl,ht2,hb⟩;replace ht1:=ht1.stay hb;replace hB:=hB.trans (Bt.aV hb);replace hM:=hM.stay hb;clear hb Iq;refine hK.out _ _ ?_ (fun hH2=>?_)
    ·exact HS.out _ hB
    clear hK K hH;have hH:=hH2;clear hH2;try simp only [aZ]
    refine uw 5 6 (fun K hK=>?_) (fun K hK=>?_)
    focus
     go_simp;go_at_call 309
     (with_reducible refine (HI.out c m p1 p2 _ (by have:=HN.out;omega) hM HN.out.2.1 HN.out.2.2.1 HN.out.2.2.2.1 HN.out.2.2.2.2 ht1 ht2 (List.pairwise_cons.1 HRS.out.1).2 (List.pairwise_cons.1 HRS.out.2).2).mono ?_);rintro e w7 ⟨p5,rfl,Ip,Im,hb⟩;replace hB:=hB.trans hb;replace hM:=Im;clear hb Im ht1 ht2;refine hK.out _ _ ?_ (fun hH2=>?_)
     ·exact HS.out _ hB
     clear hK K hH;have hH:=hH2;clear hH2;try simp only [aZ]
     refine eD 6 (fun K hK=>?_);go_simp;refine hK.out _ _ ?_ (fun hH2=>?_)
     ·exact HS.out _ (hB.alloc _)
     clear hK K hH;have hH:=hH2;clear hH2;have hv:=aB.new w7 117 (.pointer none) (.int .i64 0);have hV:w4.heap.size≤w7.heap.size:=hB.size;replace Ip:=Ip.stay (bG (.cells #[.pointer none,.int .i64 0] 117));replace hB:=hB.alloc (.cells #[.pointer none,.int .i64 0] 117);replace hM:=hM.alloc (.cells #[.pointer none,.int .i64 0] 117);obtain ⟨v,hve⟩:=aU (w7.heap.size);rw [←hve]at hv hV ⊢;clear hve;generalize w7.alloc (.cells #[.pointer none,.int .i64 0] 117)=wA at *
    rotate_left
    focus
     go_simp;refine hK.out _ _ ?_ (fun hH2=>?_)
     ·exact HS.out _ (hB.alloc _)
     clear hK K hH;have hH:=hH2;clear hH2;have hv:=aB.new w6 117 (.pointer none) (.int .i64 0);have hV:w4.heap.size≤w6.heap.size:=hB.size;replace ht1:=ht1.stay (bG (.cells #[.pointer none,.int .i64 0] 117));replace ht2:=ht2.stay (bG (.cells #[.pointer none,.int .i64 0] 117));replace hB:=hB.alloc (.cells #[.pointer none,.int .i64 0] 117);replace hM:=hM.alloc (.cells #[.pointer none,.int .i64 0] 117);obtain ⟨v,hve⟩:=aU (w6.heap.size);rw [←hve]at hv hV ⊢;clear hve;generalize w6.alloc (.cells #[.pointer none,.int .i64 0] 117)=wA at *;try simp only [aZ]
     refine eD 5 (fun K hK=>?_);go_simp;go_at_call 309
     (with_reducible refine (HI.out c m p1 p2 _ (by have:=HN.out;omega) hM HN.out.2.1 HN.out.2.2.1 HN.out.2.2.2.1 HN.out.2.2.2.2 ht1 ht2 (List.pairwise_cons.1 HRS.out.1).2 (List.pairwise_cons.1 HRS.out.2).2).mono ?_);rintro e w7 ⟨p5,rfl,Ip,Im,hb⟩;replace hv:=hv.bt hb hM (by decide);replace hB:=hB.trans hb;replace hM:=Im;clear hb Im ht1 ht2;refine hK.out _ _ ?_ (fun hH2=>?_)
     ·exact HS.out _ hB
     clear hK K hH;have hH:=hH2;clear hH2
    rotate_left
    all_goals
     try simp only [aZ]
     have vc0:=hv.c0;have vc1:=hv.c1;have vz0:=hv.z0;have vz1:=hv.z1;refine eD 7 (fun K hK=>?_);go_simp;refine hK.out _ _ ?_ (fun hH2=>?_)
     ·exact HS.out _ ((hB.own hV 0 _).own hV 1 _)
     clear hK K hH;have hH:=hH2;clear hH2;have hv2:=hv.set (.pointer p5.q) (.int .i64 p5.n);have Io:=Ip.set2 hv aj (.pointer p5.q) (.int .i64 p5.n);have hB2:=(hB.own hV 0 (.pointer p5.q)).own hV 1 (.int .i64 p5.n);have hM2:=(hM.other hv (by decide) 0 (.pointer p5.q)).other (hv.set0 (.pointer p5.q)) (by decide) 1 (.int .i64 p5.n);clear vc0 vc1 vz0 vz1;try simp only [aZ]
     refine dn ?_;clear hH;exact ⟨rfl,_,_,_,_,_,_,v,p5,by (try simp only [aZ]);rfl,hB2,hM2,hV,hv2,Io⟩
   ·go_simp;refine hK.out _ _ ?_ (fun hH2=>?_)
    ·exact HS.out _ (hB.alloc _)
    clear hK K hH;have hH:=hH2;clear hH2;have hv:=aB.new w5 117 (.pointer none) (.int .i64 0);have hV:w4.heap.size≤w5.heap.size:=hB.size;replace ht1:=ht1.stay (bG (.cells #[.pointer none,.int .i64 0] 117));replace Iq:=Iq.stay (bG (.cells #[.pointer none,.int .i64 0] 117));replace hB:=hB.alloc (.cells #[.pointer none,.int .i64 0] 117);replace hM:=hM.alloc (.cells #[.pointer none,.int .i64 0] 117);obtain ⟨v,hve⟩:=aU (w5.heap.size);rw [←hve]at hv hV ⊢;clear hve;generalize w5.alloc (.cells #[.pointer none,.int .i64 0] 117)=wA at *;try simp only [aZ]
    refine eD 4 (fun K hK=>?_);go_simp;go_at_call 317
    (with_reducible refine (bS g bs q _ Iq).mono ?_);rintro e w6 ⟨p2,rfl,ht2,hb⟩;replace ht1:=ht1.stay hb;replace hB:=hB.trans (Bt.aV hb);replace hM:=hM.stay hb;replace hv:=hv.stay hb;clear hb Iq;refine hK.out _ _ ?_ (fun hH2=>?_)
    ·exact HS.out _ hB
    clear hK K hH;have hH:=hH2;clear hH2;try simp only [aZ]
    refine eD 5 (fun K hK=>?_);go_simp;go_at_call 309
    (with_reducible refine (HI.out c m p1 p2 _ (by have:=HN.out;omega) hM HN.out.2.1 HN.out.2.2.1 HN.out.2.2.2.1 HN.out.2.2.2.2 ht1 ht2 (List.pairwise_cons.1 HRS.out.1).2 (List.pairwise_cons.1 HRS.out.2).2).mono ?_);rintro e w7 ⟨p5,rfl,Ip,Im,hb⟩;replace hv:=hv.bt hb hM (by decide);replace hB:=hB.trans hb;replace hM:=Im;clear hb Im ht1 ht2;refine hK.out _ _ ?_ (fun hH2=>?_)
    ·exact HS.out _ hB
    clear hK K hH;have hH:=hH2;clear hH2;try simp only [aZ]
    have vc0:=hv.c0;have vc1:=hv.c1;have vz0:=hv.z0;have vz1:=hv.z1;refine eD 7 (fun K hK=>?_);go_simp;refine hK.out _ _ ?_ (fun hH2=>?_)
    ·exact HS.out _ ((hB.own hV 0 _).own hV 1 _)
    clear hK K hH;have hH:=hH2;clear hH2;have hv2:=hv.set (.pointer p5.q) (.int .i64 p5.n);have Io:=Ip.set2 hv aj (.pointer p5.q) (.int .i64 p5.n);have hB2:=(hB.own hV 0 (.pointer p5.q)).own hV 1 (.int .i64 p5.n);have hM2:=(hM.other hv (by decide) 0 (.pointer p5.q)).other (hv.set0 (.pointer p5.q)) (by decide) 1 (.int .i64 p5.n);clear vc0 vc1 vz0 vz1;try simp only [aZ]
    refine dn ?_;clear hH;exact ⟨rfl,_,_,_,_,_,_,v,p5,by (try simp only [aZ]);rfl,hB2,hM2,hV,hv2,Io⟩
  ·go_simp;refine hK.out _ _ ?_ (fun hH2=>?_)
   ·exact HS.out _ (hB.alloc _)
   clear hK K hH;have hH:=hH2;clear hH2;have hv:=aB.new wd 117 (.pointer none) (.int .i64 0);have hV:w4.heap.size≤wd.heap.size:=hB.size;replace IE:=IE.stay (bG (.cells #[.pointer none,.int .i64 0] 117));replace Iq:=Iq.stay (bG (.cells #[.pointer none,.int .i64 0] 117));replace hB:=hB.alloc (.cells #[.pointer none,.int .i64 0] 117);replace hM:=hM.alloc (.cells #[.pointer none,.int .i64 0] 117);obtain ⟨v,hve⟩:=aU (wd.heap.size);rw [←hve]at hv hV ⊢;clear hve;generalize wd.alloc (.cells #[.pointer none,.int .i64 0] 117)=wA at *;try simp only [aZ]
   refine eD 1 (fun K hK=>?_);go_simp;go_at_call 317
   (with_reducible refine (bS f la p _ IE).mono ?_);rintro e w5 ⟨p1,rfl,ht1,hb⟩;replace Iq:=Iq.stay hb;replace hB:=hB.trans (Bt.aV hb);replace hM:=hM.stay hb;replace hv:=hv.stay hb;clear hb IE;refine hK.out _ _ ?_ (fun hH2=>?_)
   ·exact HS.out _ hB
   clear hK K hH;have hH:=hH2;clear hH2;try simp only [aZ]
   refine eD 4 (fun K hK=>?_);go_simp;go_at_call 317
   (with_reducible refine (bS g bs q _ Iq).mono ?_);rintro e w6 ⟨p2,rfl,ht2,hb⟩;replace ht1:=ht1.stay hb;replace hB:=hB.trans (Bt.aV hb);replace hM:=hM.stay hb;replace hv:=hv.stay hb;clear hb Iq;refine hK.out _ _ ?_ (fun hH2=>?_)
   ·exact HS.out _ hB
   clear hK K hH;have hH:=hH2;clear hH2;try simp only [aZ]
   refine eD 5 (fun K hK=>?_);go_simp;go_at_call 309
   (with_reducible refine (HI.out c m p1 p2 _ (by have:=HN.out;omega) hM HN.out.2.1 HN.out.2.2.1 HN.out.2.2.2.1 HN.out.2.2.2.2 ht1 ht2 (List.pairwise_cons.1 HRS.out.1).2 (List.pairwise_cons.1 HRS.out.2).2).mono ?_);rintro e w7 ⟨p5,rfl,Ip,Im,hb⟩;replace hv:=hv.bt hb hM (by decide);replace hB:=hB.trans hb;replace hM:=Im;clear hb Im ht1 ht2;refine hK.out _ _ ?_ (fun hH2=>?_)
   ·exact HS.out _ hB
   clear hK K hH;have hH:=hH2;clear hH2;try simp only [aZ]
   have vc0:=hv.c0;have vc1:=hv.c1;have vz0:=hv.z0;have vz1:=hv.z1;refine eD 7 (fun K hK=>?_);go_simp;refine hK.out _ _ ?_ (fun hH2=>?_)
   ·exact HS.out _ ((hB.own hV 0 _).own hV 1 _)
   clear hK K hH;have hH:=hH2;clear hH2;have hv2:=hv.set (.pointer p5.q) (.int .i64 p5.n);have Io:=Ip.set2 hv aj (.pointer p5.q) (.int .i64 p5.n);have hB2:=(hB.own hV 0 (.pointer p5.q)).own hV 1 (.int .i64 p5.n);have hM2:=(hM.other hv (by decide) 0 (.pointer p5.q)).other (hv.set0 (.pointer p5.q)) (by decide) 1 (.int .i64 p5.n);clear vc0 vc1 vz0 vz1;try simp only [aZ]
   refine dn ?_;clear hH;exact ⟨rfl,_,_,_,_,_,_,v,p5,by (try simp only [aZ]);rfl,hB2,hM2,hV,hv2,Io⟩
 rintro x' w' ⟨u59,u60,u61,u62,u63,u64,v,p5,rfl,hB,hM,hV,hv,ht⟩;try simp only [aZ]
 have nv1:¬v=a+1+1:=by have:=F3.out.r.lt;omega
 have nv2:¬a+1+1=v:=by have:=F3.out.r.lt;omega
 have F5:=hdz (F3.out.bt hB K3.out.mt);have K5:=hdz (K3.out.turn hM hB ax);have T5:=hdz (af (T3.out.1.kp (Kp.tree (Kp.bt hB K3.out.mt))) (T3.out.2.kp (Kp.tree (Kp.bt hB K3.out.mt))));have V5:=hdz (af hv (af ht hV));have v0:=hv.c0;have v1:=hv.c1;clear hB hM hV hv ht F3 K3 T3;go_wp2_with fail
 have HQ:=hdz HEQ.out;have HBR:=hdz (eu la bs (dU HB1.out.1).hok (dU HB1.out.2).hok (dU HB1.out.1).sk (dU HB1.out.2).sk (List.pairwise_cons.1 HRS.out.1).2 (List.pairwise_cons.1 HRS.out.2).2).2.2.1
 have HLOW:=hdz (show ∀x∈aP la bs,(fu f g).rank≤x.rank from by
  rw [fA HQ.out];have h1:=List.pairwise_cons.1 HRS.out.1;have h2:=List.pairwise_cons.1 HRS.out.2;have h3:=(eu la bs (dU HB1.out.1).hok (dU HB1.out.2).hok (dU HB1.out.1).sk (dU HB1.out.2).sk h1.2 h2.2).2.2.2 (f.rank+1) (fun u hu=>h1.1 u hu) (fun u hu=>by have:=h2.1 u hu;have:=HQ.out;omega);exact h3)
 go_region_held3 (fun w'=>w'.cell? ⟨v,0,none⟩=some (.pointer p5.q)∧w'.cell? ⟨v,1,none⟩=some (.int .i64 p5.n)) (go_keep)
  (first|(go_at_call 143;((with_reducible refine (jy mo (c+(aI la bs:Nat)) (m+(aI la bs:Nat)) fa ga (some f) (some g) _ K5.out.drew.mt (by have:=HN.out;omega) (by have:=HN.out;have:=HZ.out;omega) (by have:=HN.out;omega) (by have:=HN.out;have:=HZ.out;omega) (T5.out.1.stay ((Below.refl _ _).drew)) (T5.out.2.stay ((Below.refl _ _).drew)) (by have:=HN.out;simp only [bF];omega) (by have:=HN.out;simp only [bF];omega)).mono ?_);rintro e w6 ⟨p6,rfl,Io,Iy,hb6⟩;have F6:=hdz ((F5.out.stay ((Below.refl _ _).drew)).bt hb6 K5.out.drew.mt);have K6:=hdz (K5.out.drew.turn Iy hb6 ax);have T6:=hdz (show gQ w6 p6 (some (fu f g)) from Io);have V6:=hdz (af ((V5.out.1.stay ((Below.refl _ _).drew)).bt hb6 K5.out.drew.mt (by decide)) ((V5.out.2.1.stay ((Below.refl _ _).drew)).bt hb6 K5.out.drew.mt));have v60:=V6.out.1.c0;have v61:=V6.out.1.c1;clear Io Iy hb6))|(go_at_call 318;((with_reducible refine (kM mo (c+(aI la bs:Nat)+(bZ (some f) (some g):Nat)) (m+(aI la bs:Nat)+(bZ (some f) (some g):Nat)) (fu f g) (aP la bs) p6 p5 _ (by rw [jJ];have:=HN.out;have:=HZ.out;omega) K6.out.mt (by have:=HN.out;omega) (by have:=HN.out;have:=HZ.out;simp only [bZ];omega) (by have:=HN.out;omega) (by have:=HN.out;have:=HZ.out;simp only [bZ];omega) V6.out.2 HBR.out T6.out (jm (HB1.out.1.hok f (List.mem_cons_self ..)) (HB1.out.2.hok g (List.mem_cons_self ..))) (nS HQ.out (HB1.out.1.sk f (List.mem_cons_self ..)) (HB1.out.2.sk g (List.mem_cons_self ..))) HLOW.out).mono ?_);rintro e w7 ⟨p7,rfl,Ir,hm7,Iu⟩;have F7:=hdz (F6.out.bt Iu K6.out.mt);have K7:=hdz (K6.out.turn hm7 Iu ax);have L7:=hdz Ir;have V7:=hdz (V6.out.1.bt Iu K6.out.mt (by decide));have v70:=V7.out.c0;have v71:=V7.out.c1;have z0:=F7.out.r.z0;have z1:=F7.out.r.z1;have r0:=F7.out.r.c0;have r1:=F7.out.r.c1;clear Ir hm7 Iu)))
 go_wp2_with fail
 have s0:=(F7.out.r.set (.pointer p7.q) (.int .i64 p7.n)).c0;have s1:=(F7.out.r.set (.pointer p7.q) (.int .i64 p7.n)).c1;have k:=K7.out.eY F7.out.r aj (by decide) (by have:=HA.out;omega) (.pointer p7.q) (.int .i64 p7.n);have e1:c+((1+aI la bs+bg (aP la bs) (fu f g):Nat):Int)=c+(aI la bs:Nat)+(bZ (some f) (some g):Nat)+(bg (aP la bs) (fu f g):Nat):=by simp only [bZ];omega
 have e2:m+((1+aI la bs+bg (aP la bs) (fu f g):Nat):Int)=m+(aI la bs:Nat)+(bZ (some f) (some g):Nat)+(bg (aP la bs) (fu f g):Nat):=by simp only [bZ];omega
 exact bodyPost_ret (v:=hp p7) (by simp [results,Tryz.results309,go_sem,s0,s1]) rfl ⟨p7,rfl,by rw [HE.out.1];exact L7.out.set2 F7.out.r aj _ _,by rw [HE.out.2,e1,e2];exact k.mt,k.bt⟩
theorem sU (mo:Option Nat):∀la bs:List ai,bQ mo la bs:=by
 refine gW ?_ ?_ ?_ ?_ ?_
 ·exact fun b=>ja mo b
 ·exact fun f a=>ig mo f a
 ·exact fun f a g b h ih=>fw mo f g a b h ih
 ·exact fun f a g b h ih=>um mo f g a b h ih
 ·exact fun f a g b h ih=>uJ mo f g a b h ih
end Go.Proofs.YtmeodbjlmjpnbaaGreat.Sk.Hp
namespace Go.Proofs.YtmeodbjlmjpnbaaGreat.Sk.Hp
open Go.Sort Go.RowKit
theorem si (mo:Option Nat)(la lb:List ai)(c m:Int)(p q:HP)(w:World)(hs:ah la+ah lb<268435456)(hm:aW w mo c m)(h0:0≤c)(h1:c<576460752303423488)(h2:0≤m)(h3:m<576460752303423488)(ha:aA w ⟨la⟩ p)(hb:aA w ⟨lb⟩ q)(ra:rises la)(rb:rises lb) :
  Calls Tryz.prog 309 #[hp p,aF mo,hp q] w (bU mo (c+aI la lb) (m+aI la lb) ⟨aP la lb⟩ w):=sU mo la lb c m p q w hs hm h0 h1 h2 h3 ha hb ra rb
theorem pO (l:List ai):gT l≤ah l:=by
 have h1:=nN l;have h2:=bW l;omega
theorem nk {l:List ai}(h:fZ l):rises (dF l):=(jS h).2.2
theorem EN (mo:Option Nat)(la lb:List ai)(c m:Int)(p q:HP)(w:World)(hs:ah la+ah lb<268435456)(hm:aW w mo c m)(h0:0≤c)(h1:c<288230376151711744)(h2:0≤m)(h3:m<288230376151711744)(ha:aA w ⟨la⟩ p)(hb:aA w ⟨lb⟩ q) :
  Calls Tryz.prog 304 #[hp p,aF mo,hp q] w (bU mo (c+fO la lb) (m+fO la lb) ⟨nu la lb⟩ w):=by
 have HF:=hdz (Fm.new w p q);have KK:=hdz ((dL.refl (N:=au) hm).stay (aY w (.cells #[.pointer p.q,.int .i64 p.n] 117) (.cells #[.pointer q.q,.int .i64 q.n] 117) (.cells #[.pointer none,.int .i64 0] 117)));have HL:=hdz (af (ha.stay (aY w (.cells #[.pointer p.q,.int .i64 p.n] 117) (.cells #[.pointer q.q,.int .i64 q.n] 117) (.cells #[.pointer none,.int .i64 0] 117))) (hb.stay (aY w (.cells #[.pointer p.q,.int .i64 p.n] 117) (.cells #[.pointer q.q,.int .i64 q.n] 117) (.cells #[.pointer none,.int .i64 0] 117))));have HO:=hdz (af (show fZ la from ha.right) (show fZ lb from hb.right));have hz1:=pO la;have hz2:=pO lb;have HN:=hdz (af hs (af h0 (af h1 (af h2 (af h3 (af hz1 hz2))))));clear hs h0 h1 h2 h3 hm ha hb hz1 hz2;go_enter Tryz.func304,Tryz.ntmps304
 go_wp2_with fail
 generalize ((w.alloc (.cells #[.pointer p.q,.int .i64 p.n] 117)).alloc (.cells #[.pointer q.q,.int .i64 q.n] 117)).alloc (.cells #[.pointer none,.int .i64 0] 117)=w1 at *;obtain ⟨a,ha⟩:=aU (w.heap.size);rw [←ha]at HF ⊢;have HA:=hdz ha;clear ha;((with_reducible refine (tL mo c m la p _ (by have:=HN.out;omega) KK.out.mt HN.out.2.1 (by have:=HN.out;omega) HN.out.2.2.2.1 (by have:=HN.out;omega) HL.out.1).mono ?_);rintro e w2 ⟨p5,rfl,ht,hm2,hb⟩);have hb4:Bt mo w1 (w2.alloc (.cells #[.pointer p5.q,.int .i64 p5.n] 117)):=hb.alloc _;have F3:=hdz (HF.out.bt hb4 KK.out.mt);have K3:=hdz (KK.out.turn (hm2.alloc (.cells #[.pointer p5.q,.int .i64 p5.n] 117)) hb4 ax);have L3:=hdz (af (ht.stay (bG (.cells #[.pointer p5.q,.int .i64 p5.n] 117))) (HL.out.2.bt hb4 KK.out.mt));have V3:=hdz (aB.new w2 117 (.pointer p5.q) (.int .i64 p5.n));have HVL:=hdz (Nat.lt_of_lt_of_le HF.out.r.lt hb.size);clear ht hm2 hb hb4 HF KK HL;go_wp2_with fail
 generalize w2.alloc (.cells #[.pointer p5.q,.int .i64 p5.n] 117)=w3 at *;obtain ⟨v,hv⟩:=aU (w2.heap.size);rw [←hv]at V3 HVL ⊢;clear hv;have v0:=V3.out.c0;have v1:=V3.out.c1;have f2:=F3.out.o.c0;have f3:=F3.out.o.c1;have n1:¬v=a+1+1:=by have:=HVL.out;omega
 have n2:¬a+1+1=v:=by have:=HVL.out;omega
 have n3:¬a+1=a+1+1:=by omega
 have n4:¬a+1+1=a+1:=by omega
 go_region_held3 (fun w'=>w'.cell? ⟨v,0,none⟩=some (.pointer p5.q)∧w'.cell? ⟨v,1,none⟩=some (.int .i64 p5.n)∧w'.cell? ⟨a+1,0,none⟩=some (.pointer q.q)∧w'.cell? ⟨a+1,1,none⟩=some (.int .i64 q.n)) (go_keep)
  (first|(go_at_call 309;((with_reducible refine (si mo (dF la) (dF lb) (c+gT la+gT lb) (m+gT la+gT lb) p5 p6 _ (by rw [lQ,lQ];exact HN.out.1) K4.out.mt (by have:=HN.out;omega) (by have:=HN.out;omega) (by have:=HN.out;omega) (by have:=HN.out;omega) L4.out.1 L4.out.2 (nk HO.out.1) (nk HO.out.2)).mono ?_);rintro e w5 ⟨p7,rfl,Ip,Im,hb5⟩;have F5:=hdz (F4.out.bt hb5 K4.out.mt);have V5:=hdz (V4.out.bt hb5 K4.out.mt (by decide));have K5:=hdz (K4.out.turn Im hb5 ax);have L5:=hdz Ip;have kb0:=V5.out.c0;have kb1:=V5.out.c1;have kb2:=F5.out.o.c0;have kb3:=F5.out.o.c1;have r6:=F5.out.r.c0;have r7:=F5.out.r.c1;have z6:=F5.out.r.z0;have z7:=F5.out.r.z1;clear Ip Im hb5))|(go_at_call 308;((with_reducible refine (tL mo (c+gT la) (m+gT la) lb q _ (by have:=HN.out;omega) K3.out.drew.mt (by have:=HN.out;omega) (by have:=HN.out;omega) (by have:=HN.out;omega) (by have:=HN.out;omega) (L3.out.2.stay ((Below.refl _ _).drew))).mono ?_);rintro e w4 ⟨p6,rfl,IC,hm4,hb4⟩;have F4:=hdz ((F3.out.stay ((Below.refl _ _).drew)).bt hb4 K3.out.drew.mt);have V4:=hdz ((V3.out.stay ((Below.refl _ _).drew)).bt hb4 K3.out.drew.mt (by decide));have K4:=hdz (K3.out.drew.turn hm4 hb4 ax);have L4:=hdz (af ((L3.out.1.stay ((Below.refl _ _).drew)).bt hb4 K3.out.drew.mt) IC);have ka0:=V4.out.c0;have ka1:=V4.out.c1;have ka2:=F4.out.o.c0;have ka3:=F4.out.o.c1;clear IC hm4 hb4)))
 go_wp2_with fail
 have s0:=(F5.out.r.set (.pointer p7.q) (.int .i64 p7.n)).c0;have s1:=(F5.out.r.set (.pointer p7.q) (.int .i64 p7.n)).c1;have hk:=K5.out.eY F5.out.r aj (by decide) (by have:=HA.out;omega) (.pointer p7.q) (.int .i64 p7.n);have hmt:=hk.mt;rw [show c+(gT la:Nat)+(gT lb:Nat)+(aI (dF la) (dF lb):Nat)=c+((fO la lb:Nat):Int) from by unfold fO;omega,show m+(gT la:Nat)+(gT lb:Nat)+(aI (dF la) (dF lb):Nat)=m+((fO la lb:Nat):Int) from by unfold fO;omega]at hmt;exact bodyPost_ret (v:=hp p7) (by simp [results,Tryz.results304,go_sem,s0,s1]) rfl ⟨p7,rfl,L5.out.set2 F5.out.r aj _ _,hmt,hk.bt⟩
theorem eT (mo:Option Nat)(a b:Lh)(c m:Int)(p q:HP)(w:World)(hs:a.size+b.size<268435456)(hm:aW w mo c m)(h0:0≤c)(h1:c<288230376151711744)(h2:0≤m)(h3:m<288230376151711744)
  (ha:aA w a p) (hb:aA w b q):Calls Tryz.prog 304 #[hp p,aF mo,hp q] w (bU mo (c+aQ a b) (m+aQ a b) (bI a b) w) :=
 EN mo a.ts b.ts c m p q w hs hm h0 h1 h2 h3 ha hb
end Go.Proofs.YtmeodbjlmjpnbaaGreat.Sk.Hp
