/- Plain facts, of no program: binomial heaps under the names that the laws' walks use (those of layer 6's): melded, put in, of a row, the least one taken out: elements, order, sizes, counts. No conditions. -/
import Derived.Test.YtmeodbjlmjpnbaaGreatPt
import Derived.Deep.LoopGhost
import Derived.Deep.RegionHeld3
import Derived.Deep.DrawnRows
import Derived.Test.YtmeodbjlmjpnbaaGreatPa
import Derived.Handy
set_option maxRecDepth 100000
set_option maxHeartbeats 4000000
namespace Go.Proofs.YtmeodbjlmjpnbaaGreat.Bi
open Go.Sort Go.RowKit
structure Lh where
 ts:List ai
def Lh.nil:Lh:=⟨[]⟩
def Lh.size (h:Lh):Nat:=ah h.ts
def Lh.all (h:Lh):List (Int×Int):=aR h.ts
def Lh.show (h:Lh):List UInt8:=Gp h.ts
def Lh.min (h:Lh):(Int×Int)×Bool:=qY h.ts
def Lh.some (h:Lh):Bool:=h.min.2
def Lh.one (x:Int×Int):Lh:=⟨[bY x]⟩
def bI (a b:Lh):Lh:=⟨aP a.ts b.ts⟩
def aQ (a b:Lh):Nat:=aI a.ts b.ts
def Lh.insert (h:Lh)(x:Int×Int):Lh:=bI (.one x) h
def Lh.pop (h:Lh):Lh:=⟨C9 h.ts⟩
def Lh.oK (h:Lh):Nat:=G6 h.ts
def Lh.bT (h:Lh):Nat:=h.ts.length - 1
def fG (l:List (Int×Int)):Lh:=l.foldl Lh.insert .nil
def dN:Lh→List (Int×Int)→Nat
 | _,[]=>0
 | h,x::r=>aQ (.one x) h+dN (h.insert x) r
theorem xL (x:Int×Int)(l:List ai):aP [bY x] l=dx l (bY x)∧aI [bY x] l=bg l (bY x):=by
 cases l with
 | nil=>exact ⟨by rw [dM];rfl,by rw [gq];rfl⟩
 | cons u r =>
  have h0:(bY x).rank=0:=rfl;by_cases h:(bY x).rank<u.rank
  ·exact ⟨by rw [iE h,eU,dx,if_pos h],by rw [jR h,iH,bg,if_pos h]⟩
  ·have he:(bY x).rank=u.rank:=by omega
   exact ⟨by rw [iD he,eU,dx,if_neg h],by rw [jO he,eU,iH,bg,if_neg h]⟩
theorem yH (h:Lh)(x:Int×Int):(h.insert x).ts=za h.ts x:=(xL x h.ts).1
theorem FR (h:Lh)(x:Int×Int):aQ (.one x) h=bg h.ts (bY x):=(xL x h.ts).2
theorem mJ:∀(l:List (Int×Int)) (h:Lh),(l.foldl Lh.insert h).ts=l.foldl za h.ts
 | [],_=>rfl
 | x::r,h=>by rw [List.foldl_cons,List.foldl_cons,mJ r (h.insert x),yH]
theorem vv (l:List (Int×Int)):(fG l).ts=G9 l:=mJ l .nil
theorem Lh.aD (h:Lh):h.all.length=h.size:=aG _
theorem bP (a b:Lh):(bI a b).all.Perm (a.all++b.all):=ji _ _
theorem d9 (a b:Lh):(bI a b).size=a.size+b.size:=fe _ _
theorem lV (x:Int×Int):(Lh.one x).all=[x]:=by simp [Lh.one,Lh.all,aR,bY,ai.all,ay.all]
theorem iL (x:Int×Int):(Lh.one x).size=1:=rfl
theorem bD (h:Lh)(x:Int×Int):(h.insert x).all.Perm (x::h.all):=by
 refine (bP _ _).trans ?_;rw [lV];rfl
theorem gZ (h:Lh)(x:Int×Int):(h.insert x).size=h.size+1:=by unfold Lh.insert;rw [d9,iL];omega
theorem fJ (l:List (Int×Int)):(fG l).all.Perm l:=by unfold Lh.all;rw [vv];exact BX l
theorem kW (l:List (Int×Int)):(fG l).size=l.length:=by unfold Lh.size;rw [vv];exact EG l
theorem lI (l:List (Int×Int))(x:Int×Int):fG (l++[x])=(fG l).insert x:=by simp [fG]
theorem kJ:∀(l:List (Int×Int)) (h:Lh) (x:Int×Int),dN h (l++[x])=dN h l+aQ (.one x) (l.foldl Lh.insert h)
 | [],h,x=>by simp [dN]
 | y::l,h,x=>by simp only [List.cons_append,dN,List.foldl_cons];rw [kJ l (h.insert y) x];omega
def Lh.ok (h:Lh):Prop:=rX h.ts
theorem gm (a b:Lh)(ha:a.ok)(hb:b.ok):(bI a b).ok:=Az ha hb
theorem nU (x:Int×Int):(Lh.one x).ok:=⟨by intro t ht;simp [Lh.one]at ht;subst ht;exact oN x,by intro t ht;simp [Lh.one]at ht;subst ht;exact wL x,by simp [Lh.one]⟩
theorem qd (l:List (Int×Int)):(fG l).ok:=by unfold Lh.ok;rw [vv];exact GI l
theorem nP {h:Lh}(hk:h.ok):h.pop.ok:=Ct hk
theorem Lh.oL {h:Lh}(hz:h.size=0):h=.nil:=by
 obtain ⟨l⟩:=h;have:l=[]:=rV hz;subst this;rfl
theorem dX (h:Lh):h.ts.length≤h.size:=by
 obtain ⟨l⟩:=h;show l.length≤ah l;induction l with
 | nil=>exact Nat.le_refl _
 | cons t r ih=>simp only [List.length_cons,ah,ai.size];omega
theorem kF (a b:Lh):aQ a b≤a.size+b.size:=by
 have h1:=yO a.ts b.ts;have h2:=dX a;have h3:=dX b;unfold aQ;omega
theorem kz (h:Lh):h.bT≤h.size:=by have:=dX h;unfold Lh.bT;omega
theorem DL {h:Lh}:h.oK≤h.size:=by
 obtain ⟨l⟩:=h;match l with
 | []=>exact Nat.zero_le _
 | t::r =>
  have hl:=dz (l:=t::r) (by simp);have hgt:(t::r)[ak (t::r)]?=some (t::r)[ak (t::r)]:=List.getElem?_eq_getElem hl;have hk:aO (t::r) (ak (t::r))=((t::r)[ak (t::r)]).ks.list.reverse:=by unfold aO;rw [hgt]
  have h3:=yO (aO (t::r) (ak (t::r))) (aK (t::r) (ak (t::r)));have h4:=dX ⟨aK (t::r) (ak (t::r))⟩;have h5:=(eH hl).length_eq;rw [aG,List.length_append,aG,ai.aD]at h5;have h6:=((t::r)[ak (t::r)]).ks.fE;show aI (aO (t::r) (ak (t::r))) (aK (t::r) (ak (t::r)))≤ah (t::r);rw [hk]at h3 ⊢;rw [List.length_reverse,ay.lF]at h3;have h7:((t::r)[ak (t::r)]).size=1+((t::r)[ak (t::r)]).bs.length+((t::r)[ak (t::r)]).ks.size:=rfl;simp only [Lh.size]at h4;omega
theorem nZ:∀(l:List (Int×Int)) (h:Lh),dN h l≤l.length*(h.size+l.length+1)
 | [],h=>by simp [dN]
 | x::r,h=>by
  have h1:=kF (.one x) h;have h2:=nZ r (h.insert x);rw [gZ]at h2;rw [iL]at h1;simp only [dN,List.length_cons,Nat.add_mul];have h3:r.length*(h.size+1+r.length+1)=r.length*(h.size+(r.length+1)+1):=by congr 1;omega
  omega
structure Lh.good (h:Lh):Prop where
 ok:h.ok
 fit:fits h.all
theorem jQ {a b:Lh}(ha:a.good)(hb:b.good):(bI a b).good:=⟨gm _ _ ha.ok hb.ok,(ha.fit.join hb.fit).perm (bP a b).symm⟩
theorem qR {x:Int×Int}(h:iw x.1∧iw x.2):(Lh.one x).good:=⟨nU x,by rw [lV];exact fits.more h fits.nil⟩
theorem kL {a:Lh}{x:Int×Int}(ha:a.good)(h:iw x.1∧iw x.2):(a.insert x).good:=jQ (qR h) ha
theorem kT {l:List (Int×Int)}(h:fits l):(fG l).good:=⟨qd l,h.perm (fJ l).symm⟩
theorem jE {a:Lh}(ha:a.good):a.pop.good:=⟨nP ha.ok,(Dp ⟨ha.ok,ha.fit⟩).fit⟩
theorem rq (a b:Lh):dw (bI a b).all=dw (a.all++b.all):=bX (bP a b)
theorem nJ (a:Lh)(x:Int×Int):dw (a.insert x).all=dw (x::a.all):=bX (bD a x)
theorem nD (l:List (Int×Int)):dw (fG l).all=dw l:=bX (fJ l)
theorem jK {h:Lh}(hk:h.ok)(hne:h.min.2=true):dw h.all=h.min.1::dw h.pop.all:=by
 have:h.ts≠[]:=by intro e;unfold Lh.min at hne;rw [e]at hne;cases hne
 exact Ei hk this
theorem kS {a:Lh}(h:a.ok):dw a.pop.all=(dw a.all).tail:=by
 by_cases hne:a.min.2=true
 ·rw [jK h hne];rfl
 ·have:a.ts=[]:=by
   cases ht:a.ts with
   | nil=>rfl
   | cons t r=>unfold Lh.min at hne;rw [ht]at hne;exact absurd rfl hne
  unfold Lh.pop Lh.all;rw [this];show dw (aR [])=(dw (aR [])).tail;simp [aR,kr]
theorem jX (t:Lh):t.min.2=t.some:=rfl
end Go.Proofs.YtmeodbjlmjpnbaaGreat.Bi
namespace Go.Proofs.YtmeodbjlmjpnbaaGreat.Bi.Hp
open Go.Sort Go.RowKit
structure HP where
 q:Option Addr
 n:Int
abbrev hp (p:HP):Value := .agg #[.pointer p.q,.int .i64 p.n]
def au (t:TypeId):Prop:=dV t∨t=291
abbrev Kp (W W':World):Prop:=bO au W W'
theorem ax:¬au 89 := by unfold au dV;decide
theorem iN:¬au 29 := by unfold au dV;decide
theorem aj:¬au 108 := by unfold au dV;decide
theorem dh:¬au 106 := by unfold au dV;decide
section
variable {W W':World}
theorem Kp.tree (h:Kp W W'):Go.Proofs.YtmeodbjlmjpnbaaGreat.Kp W W':=fun k cs t ht e=>h k cs t (.inl ht) e
theorem mY (h:Kp W W'):∀{m m':Nat} {p:Option Addr} {xs:List (Option Addr)},W.heap.size≤W'.heap.size→m≤W.heap.size→m'=W'.heap.size→Chain Lt.one 291 m W p xs→Chain Lt.one 291 m' W' p xs
 | _,_,_,[],_,_,_,hl=>hl
 | _,_,_,_::_,hs,hm,he,⟨b,q,hp,hb,hv,hr⟩=>⟨b,q,hp,by omega,h _ _ _ (.inr rfl) hv,mY h hs hm he hr⟩
def aS (W:World):List ai→List (Option Addr)→Prop
 | [],ps=>ps=[]
 | t::ts,ps => ∃p ps',ps=p::ps'∧gQ W p (some t)∧aS W ts ps'
theorem aS.kp (h:Kp W W'):∀{ts:List ai} {ps:List (Option Addr)},aS W ts ps→aS W' ts ps
 | [],_,hp=>hp
 | _::_,_,⟨p,ps',e,h1,h2⟩=>⟨p,ps',e,h1.kp h.tree,aS.kp h h2⟩
theorem aS.length:∀{ts:List ai} {ps:List (Option Addr)},aS W ts ps→ps.length=ts.length
 | [],_,h=>by rw [h];rfl
 | _::_,_,⟨_,_,e,_,h⟩=>by rw [e,List.length_cons,h.length,List.length_cons]
theorem aS.at:∀{ts:List ai} {ps:List (Option Addr)} {j:Nat} {t:ai},aS W ts ps→ts[j]?=some t → ∃p,ps[j]?=some p∧gQ W p (some t)
 | [],_,_,_,_,h=>by simp at h
 | u::_,_,0,t,⟨p,ps',e,h1,_⟩,h=>by
  have:u=t:=by simpa using h
  subst this;subst e;exact ⟨p,rfl,h1⟩
 | _::_,_,j+1,t,⟨p,ps',e,_,h2⟩,h=>by
  subst e;obtain ⟨q,hq,ht⟩:=aS.at (j:=j) h2 (by simpa using h);exact ⟨q,by simpa using hq,ht⟩
theorem aS.append:∀{ts us:List ai} {ps qs:List (Option Addr)},aS W ts ps→aS W us qs→aS W (ts++us) (ps++qs)
 | [],_,_,_,h,k=>by rw [h];exact k
 | _::_,_,_,_,⟨p,ps',e,h1,h2⟩,k=>by rw [e];exact ⟨p,ps'++_,rfl,h1,aS.append h2 k⟩
theorem aS.one {t:ai}{p:Option Addr}(h:gQ W p (some t)):aS W [t] [p]:=⟨p,[],rfl,h,rfl⟩
theorem aS.reverse:∀{ts:List ai} {ps:List (Option Addr)},aS W ts ps→aS W ts.reverse ps.reverse
 | [],_,h=>by rw [h];rfl
 | t::ts,_,⟨p,ps',e,h1,h2⟩=>by
  rw [e,List.reverse_cons,List.reverse_cons];exact aS.append (aS.reverse h2) (aS.one h1)
theorem aS.take:∀{ts:List ai} {ps:List (Option Addr)} (k:Nat),aS W ts ps→aS W (ts.take k) (ps.take k)
 | [],_,k,h=>by rw [h];simp [aS]
 | _::_,_,0,_=>by simp [aS]
 | _::_,_,k+1,⟨p,ps',e,h1,h2⟩=>by rw [e];exact ⟨p,ps'.take k,rfl,h1,aS.take k h2⟩
theorem aS.drop:∀{ts:List ai} {ps:List (Option Addr)} (k:Nat),aS W ts ps→aS W (ts.drop k) (ps.drop k)
 | [],_,k,h=>by rw [h];simp [aS]
 | _::_,_,0,h=>h
 | _::_,_,k+1,⟨p,ps',e,h1,h2⟩=>by rw [e];exact aS.drop k h2
theorem aS.tail {ts:List ai}{ps:List (Option Addr)}(h:aS W ts ps):aS W ts.tail ps.tail:=by
 have:=h.drop 1;rwa [List.drop_one,List.drop_one]at this
theorem iG.ts:∀{ks:ay} {ps:List (Option Addr)},iG W ks ps→aS W ks.list ps
 | .nil,_,h=>h
 | .cons _ _ _ _,_,⟨_,ps',e,hn,h⟩=>⟨_,ps',e,⟨_,rfl,hn⟩,iG.ts h⟩
def aA (W:World)(t:Lh)(p:HP):Prop:=∃ps,Ch Lt.one 291 W p.q ps∧aS W t.ts ps∧p.n=(t.ts.length:Nat)∧t.size<268435456∧t.ok
theorem aA.fQ {t:Lh}{p:HP}(hn:aA W t p)(h:Kp W W')(hs:W.heap.size≤W'.heap.size):aA W' t p:=by
 obtain ⟨ps,h1,h2,h3⟩:=hn;exact ⟨ps,mY h hs (Nat.le_refl _) rfl h1,h2.kp h,h3⟩
theorem aA.stay {t:Lh}{p:HP}(hn:aA W t p)(h:Below W.heap.size W W'):aA W' t p:=hn.fQ (bO.below h) h.size
theorem aA.small {t:Lh}{p:HP}(hn:aA W t p):t.size<268435456:=by obtain ⟨_,_,_,_,h,_⟩:=hn;exact h
theorem aA.right {t:Lh}{p:HP}(hn:aA W t p):t.ok:=by obtain ⟨_,_,_,_,_,h⟩:=hn;exact h
theorem aA.len {t:Lh}{p:HP}(hn:aA W t p):t.ts.length<268435456:=by have:=hn.small;have:=dX t;omega
theorem aA.list {t:Lh}{p:HP}(hn:aA W t p):∃(ps:List (Option Addr)) (n:Nat),p.n=(n:Int)∧n=t.ts.length∧Lt.LL W p.q n ps∧aS W t.ts ps:=by
 have hl:=hn.len;obtain ⟨ps,h1,h2,h3,h4,h5⟩:=hn;exact ⟨ps,t.ts.length,h3,rfl,⟨h1,h2.length.symm,by omega⟩,h2⟩
theorem aA.of {ts:List ai}{q:Option Addr}{n:Nat}{ps:List (Option Addr)}(hl:Lt.LL W q n ps)(ht:aS W ts ps)(hs:ah ts<268435456)(hk:rX ts):aA W ⟨ts⟩ ⟨q,(n:Int)⟩ :=
 ⟨ps,hl.1,ht,by show (n:Int)=_;rw [hl.2.1,ht.length],hs,hk⟩
theorem aA.nil (W:World):aA W .nil ⟨none,0⟩:=⟨[],Ch.none W,rfl,rfl,by decide,wE⟩
theorem aA.no {p:HP}(h:aA W .nil p):p=⟨none,0⟩:=by
 obtain ⟨q,n⟩:=p;obtain ⟨ps,h1,h2,h3, -⟩:=h;obtain rfl:ps=[]:=h2;have h4:q=none:=h1;have h5:n=0:=h3;rw [h4,h5]
end
def bU (mo:Option Nat)(c m:Int)(t:Lh)(w:World)(e:Ending)(w':World):Prop:=∃p:HP,e=.returned (.agg #[.pointer p.q,.int .i64 p.n])∧aA w' t p∧aW w' mo c m∧Bt mo w w'
section
variable {W W':World}{mo:Option Nat}{c m:Int}
theorem Kp.bt (hb:Bt mo W W')(hm:aW W mo c m):Kp W W':=hb.oG hm ax
theorem aA.bt {t:Lh}{p:HP}(h:aA W t p)(hb:Bt mo W W')(hm:aW W mo c m):aA W' t p:=h.fQ (hb.oG hm ax) hb.size
theorem aS.bt {ts:List ai}{ps:List (Option Addr)}(h:aS W ts ps)(hb:Bt mo W W')(hm:aW W mo c m):aS W' ts ps:=h.kp (hb.oG hm ax)
theorem He {q:Option Addr}{n:Nat}{ps:List (Option Addr)}(h:Lt.LL W q n ps)(hb:Bt mo W W')(hm:aW W mo c m):Lt.LL W' q n ps:=⟨mY (hb.oG hm ax) hb.size (Nat.le_refl _) rfl h.1,h.2⟩
end
end Go.Proofs.YtmeodbjlmjpnbaaGreat.Bi.Hp
namespace Go.Proofs.YtmeodbjlmjpnbaaGreat.Bi.Hp
open Go.Sort Go.RowKit
section
variable {W W':World}{mo:Option Nat}{c m:Int}{b:Nat}{t:TypeId}{x y:Value}
theorem Kp.set2 (h:aB W b t x y)(ht:¬au t)(u v:Value):Kp W ((W.setCell ⟨b,0,none⟩ u).setCell ⟨b,1,none⟩ v):=(bO.set h ht 0 u).trans (bO.set (h.set0 u) ht 1 v)
theorem iV (W:World)(b:Nat)(u v:Value):((W.setCell ⟨b,0,none⟩ u).setCell ⟨b,1,none⟩ v).heap.size=W.heap.size:=by simp [World.setCell]
theorem aA.set2 {l:Lh}{p:HP}(hl:aA W l p)(h:aB W b t x y)(ht:¬au t)(u v:Value):aA ((W.setCell ⟨b,0,none⟩ u).setCell ⟨b,1,none⟩ v) l p:=hl.fQ (Kp.set2 h ht u v) (by rw [iV];exact Nat.le_refl _)
theorem aS.set2 {ts:List ai}{ps:List (Option Addr)}(hl:aS W ts ps)(h:aB W b t x y)(ht:¬au t)(u v:Value):aS ((W.setCell ⟨b,0,none⟩ u).setCell ⟨b,1,none⟩ v) ts ps:=hl.kp (Kp.set2 h ht u v)
theorem qf {q:Option Addr}{n:Nat}{ps:List (Option Addr)}(hl:Lt.LL W q n ps)(h:aB W b t x y)(ht:¬au t)(u v:Value):Lt.LL ((W.setCell ⟨b,0,none⟩ u).setCell ⟨b,1,none⟩ v) q n ps:=⟨mY (Kp.set2 h ht u v) (by rw [iV];exact Nat.le_refl _) (Nat.le_refl _) rfl hl.1,hl.2⟩
end
theorem dU {t:ai}{ts:List ai}(h:rX (t::ts)):rX ts:=⟨fun u hu=>h.hok u (List.mem_cons_of_mem _ hu),fun u hu=>h.bin u (List.mem_cons_of_mem _ hu),(List.pairwise_cons.1 h.rise).2⟩
theorem bS (t:ai)(ts:List ai)(p:HP)(w:World)(h:aA w ⟨t::ts⟩ p):Calls Tryz.prog 361 #[hp p] w fun e w' => ∃p':HP,e=.returned (.agg #[.pointer p'.q,.int .i64 p'.n])∧aA w' ⟨ts⟩ p'∧Below w.heap.size w w':=by
 have hs:=h.small;obtain ⟨ps,n,hn,hnl,hl,ht⟩:=h.list;obtain ⟨q,pn⟩:=p;change pn=(n:Int) at hn;subst hn;have hb1:Below w.heap.size w ((w.alloc (.cells #[.pointer q,.int .i64 (n:Int)] 108)).alloc (.cells #[.pointer none,.int .i64 0] 108)):=((Below.refl _ w).alloc (Nat.le_refl _) _).alloc (by simp) _;have bR:=aB.new (w.alloc (.cells #[.pointer q,.int .i64 (n:Int)] 108)) 108 (.pointer none) (.int .i64 0);simp only [World.size_alloc]at bR;have H:=hdz (af (hl.stay hb1) (af (ht.kp (bO.below hb1)) (af hb1 (af bR (af hs h.right)))));clear h hl ht hb1 bR hs hnl;go_enter Tryz.func361,Tryz.ntmps361
 go_wp2_with fail
 ((with_reducible refine (Lt.oC H.out.1).mono ?_);rintro e w2 ⟨q2,n2,rfl,hl2,hb2⟩);have B2:=H.out.2.2.2.1.stay hb2;have c0:=B2.c0;have c1:=B2.c1;have z0:=B2.z0;have z1:=B2.z1;have X:=hdz (af B2 (af hl2 (af (H.out.2.1.kp (bO.below hb2)) (H.out.2.2.1.trans (hb2.mono H.out.2.2.1.size)))));clear B2 hl2 hb2;go_wp2_with fail
 have S:=X.out.1.set (.pointer q2) (.int .i64 (n2:Int));have d0:=S.c0;have d1:=S.c1;refine bodyPost_ret (v:=hp ⟨q2,(n2:Int)⟩) (by simp [results,Tryz.results361,go_sem,d0,d1]) rfl ⟨⟨q2,(n2:Int)⟩,rfl,?_,aL X.out.2.2.2 (by omega) _ _⟩;exact aA.of (qf X.out.2.1 X.out.1 aj _ _) (X.out.2.2.1.tail.set2 X.out.1 aj _ _) (by have h1:=H.out.2.2.2.2.1;simp only [Lh.size,ah]at h1;omega) (dU H.out.2.2.2.2.2)
theorem mU {l:List ai}{i:Nat}(h:i<l.length):ah (l.take (i+1))=ah (l.take i)+l[i].size:=by
 have e:∀a b:List ai,ah (a++b)=ah a+ah b:=fun a b=>by
  induction a with
  | nil=>simp [ah]
  | cons t r ih=>simp only [List.cons_append,ah,ih];omega
 rw [List.take_succ_eq_append_getElem h,e];simp [ah]
theorem cO (l:List ai)(i:Nat):ah (l.take i)≤ah l:=by
 have e:∀a b:List ai,ah (a++b)=ah a+ah b:=fun a b=>by
  induction a with
  | nil=>simp [ah]
  | cons t r ih=>simp only [List.cons_append,ah,ih];omega
 conv=>rhs;rw [←List.take_append_drop i l]
 rw [e];omega
theorem jP {W:World}{b o:Nat}{ps:List (Option Addr)}(h:Row1 Lt.one W (some ⟨b,o,none⟩) ps){j:Nat}{p:Option Addr}(hj:ps[j]?=some p):W.cell? ⟨b,o+j,none⟩=some (.pointer p):=by
 obtain ⟨hlt,rfl⟩:=List.getElem?_eq_some_iff.1 hj;obtain ⟨b',o',e,hc⟩:=h (by omega)
 cases e
 exact hc j hlt
theorem jW {W:World}{A:Option Addr}{ps:List (Option Addr)}(h:Row1 Lt.one W A ps)(h0:0<ps.length):∃b o,A=some ⟨b,o,none⟩:=by
 obtain ⟨b,o,e, -⟩:=h h0;exact ⟨b,o,e⟩
theorem eF (t:Lh)(p:HP)(w:World)(h:aA w t p):Calls Tryz.prog 360 #[hp p] w fun e w'=>e=.returned (.int .i64 (t.size:Nat))∧Below w.heap.size w w':=by
 have hs:=h.small;obtain ⟨ps,n,hn,hnl,hl,ht⟩:=h.list;obtain ⟨q,pn⟩:=p;change pn=(n:Int) at hn;subst hn;have hb1:Below w.heap.size w (w.alloc (.cells #[.pointer q,.int .i64 (n:Int)] 108)):=(Below.refl _ w).alloc (Nat.le_refl _) _;have H:=hdz (af (hl.stay hb1) (af (ht.kp (bO.below hb1)) (af hb1 (af hs hnl))));have hn:n<268435456:=by have:=h.len;omega
 clear h hl ht hb1 hs hnl;go_enter Tryz.func360,Tryz.ntmps360
 go_wp2_with fail
 ((with_reducible refine (Lt.qK H.out.1).mono ?_);rintro e w2 ⟨A,cc,rfl, -,hr,hnc,hb2⟩);have X:=hdz (af hr (af hnc (af (H.out.2.1.kp (bO.below hb2)) (H.out.2.2.1.trans (hb2.mono H.out.2.2.1.size)))));clear hr hnc hb2;go_wp2_with fail
 go_loopg [3,10] n (fun k s iv wr => ∃i z:Nat,iv=.int .i64 (i:Int)∧s=.int .i64 (z:Int)∧z=ah (t.ts.take i)∧i+k=n∧w2=wr)
 case atStart=>exact ⟨0,0,rfl,rfl,rfl,by omega,rfl⟩
 case round =>
  obtain ⟨i,z,rfl,rfl,hz,hi,hw⟩:=hrel;subst hw;by_cases hlt:i<n
  ·have hil:i<t.ts.length:=by have:=H.out.2.2.2.2;omega
   obtain ⟨a,ha,hta⟩:=X.out.2.2.1.at (List.getElem?_eq_getElem hil);have hpl:=X.out.2.2.1.length;obtain ⟨b,o,rfl⟩:=jW X.out.1 (by omega);have hc:=jP X.out.1 ha;have hz1:=mU hil;have hz2:=cO t.ts (i+1);have hsm:ah t.ts<268435456:=H.out.2.2.2.1;have HT:=hdz (show gQ w2 a (some t.ts[i])∧bF (some t.ts[i])<1073741824∧bF (some t.ts[i])=t.ts[i].size from ⟨hta,by simp only [bF];omega,rfl⟩);obtain ⟨sz,hsz⟩:=aU (t.ts[i].size);have HZ:=hdz (show z+sz=ah (t.ts.take (i+1))∧z+sz<268435456∧i+gk=n∧sz=t.ts[i].size from ⟨by omega,by omega,hi,hsz⟩);have q1:(i:Int)<(n:Int):=by omega
   have q2:(0:Int)≤(i:Int):=by omega
   have q3:decide ((i:Int)<(n:Int))=true:=by simp;omega
   have q4:decide (i<n)=true:=by simp;omega
   have w1':IntKind.i64.wrap ((i:Int)+1)=(i:Int)+1:=by rw [IntKind.wrap_i64];omega
   have w2':IntKind.i64.wrap ((z:Int)+(sz:Int))=(z:Int)+(sz:Int):=by have:=HZ.out;rw [IntKind.wrap_i64];omega
   clear hta ha hz1 hz2 hsm hz hi hsz hpl;go_wp2_with fail
   ((with_reducible refine (Go.Proofs.YtmeodbjlmjpnbaaGreat.eF a _ _ HT.out.1 HT.out.2.1).mono ?_);rintro e w3 ⟨rfl,hw3⟩);subst hw3;rw [HT.out.2.2,←HZ.out.2.2.2];go_wp2_with fail
   go_roundg (n - 1 - i)
   case measure=>have:=HZ.out;omega
   case rel=>exact ⟨i+1,z+sz,by first|rfl|(congr 1;unfold wrap64;omega),by rw [Int.natCast_add],HZ.out.1,by have:=HZ.out;omega,rfl⟩
  ·have q1:¬(i:Int)<(n:Int):=by omega
   have q3:decide ((i:Int)<(n:Int))=false:=by simp;omega
   have q4:decide (i<n)=false:=by simp;omega
   have hql:z=t.size:=by rw [hz,show t.ts.take i=t.ts from List.take_of_length_le (by have:=H.out.2.2.2.2;omega)];rfl
   have HQ:=hdz hql;clear hql hz hi;go_wp2_with fail
   go_ret
   exact ⟨by rw [←HQ.out];rfl,X.out.2.2.2⟩
end Go.Proofs.YtmeodbjlmjpnbaaGreat.Bi.Hp
namespace Go.Proofs.YtmeodbjlmjpnbaaGreat.Bi.Hp
open Go.Sort Go.RowKit
theorem Ar:∀(l:List ai) (t:ai),bg l t≤l.length
 | [],_=>Nat.le_refl _
 | u::r,t=>by
  have ih:=Ar r (fu t u);unfold bg;split
  ·exact Nat.zero_le _
  ·simp only [List.length_cons];omega
theorem bW:∀l:List ai,l.length≤ah l
 | []=>Nat.le_refl _
 | t::r=>by have:=bW r;simp only [List.length_cons,ah,ai.size];omega
theorem C8 (l:List ai)(t:ai):ah (dx l t)=t.size+ah l:=by
 have h:=(lu l t).length_eq;rw [aG,List.length_append,aG,t.aD]at h;exact h
structure Ah (mo:Option Nat)(c m:Int)(ts:List ai)(t:ai)(a:Nat)(w:World)(us:List ai)(u:ai)(d:Nat)(ua q:Option Addr)(n:Nat)(qs:List (Option Addr))(wr:World):Prop where
 tr:gQ wr ua (some u)
 ll:Lt.LL wr q n qs
 tl:aS wr us qs
 o:aB wr (a+2) 106 (.pointer q) (.int .i64 (n:Int))
 r:aB wr (a+1) 108 (.pointer none) (.int .i64 0)
 k:dL au mo w (c+d) (m+d) wr
 put:dx us u=dx ts t
 dN:d+bg us u=bg ts t
 low:∀x∈us,u.rank≤x.rank
 rise:us.Pairwise (fun a b=>a.rank<b.rank)
 size:u.size+ah us=t.size+ah ts
theorem bC {W:World}{p:Option Addr}{t:ai}(h:gQ W p (some t))(r:Nat)(hr:r=t.rank):Calls Tryz.prog 142 #[.pointer p] W fun e w'=>e=.returned (.int .i64 (r:Int))∧w'=W :=
 (Go.Proofs.YtmeodbjlmjpnbaaGreat.jG p (some t) W h).mono fun _ _ ⟨he,hw⟩=>⟨by rw [he,hr];rfl,hw⟩
theorem kM (mo:Option Nat)(c m:Int)(t:ai)(ts:List ai)(pa:Option Addr)(p:HP)(w:World)(hs:t.size+ah ts<268435456)(hm:aW w mo c m)(h0:0≤c)(h1:c<1152921504606846976)(h2:0≤m)(h3:m<1152921504606846976)
  (hh:aA w ⟨ts⟩ p) (hta:gQ w pa (some t)) (hk1:t.hok) (hk2:t.bin) (hlow:∀x∈ts,t.rank≤x.rank) :
  Calls Tryz.prog 116 #[hp p,aF mo,.pointer pa] w (bU mo (c+bg ts t) (m+bg ts t) ⟨dx ts t⟩ w):=by
 have hok:rX ts:=hh.right;have hlen:ts.length<268435456:=hh.len;obtain ⟨ps,n,hn,hnl,hl,ht⟩:=hh.list;obtain ⟨q,pn⟩:=p;change pn=(n:Int) at hn;subst hn;have b1:=(aB.new w 108 (.pointer q) (.int .i64 (n:Int))).alloc (.cells #[.pointer none,.int .i64 0] 108) |>.alloc (.cells #[.pointer q,.int .i64 (n:Int)] 106);have b2:=(aB.new (w.alloc (.cells #[.pointer q,.int .i64 (n:Int)] 108)) 108 (.pointer none) (.int .i64 0)).alloc (.cells #[.pointer q,.int .i64 (n:Int)] 106);have b3:=aB.new ((w.alloc (.cells #[.pointer q,.int .i64 (n:Int)] 108)).alloc (.cells #[.pointer none,.int .i64 0] 108)) 106 (.pointer q) (.int .i64 (n:Int));simp only [World.size_alloc]at b2 b3;have hb:Below w.heap.size w (((w.alloc (.cells #[.pointer q,.int .i64 (n:Int)] 108)).alloc (.cells #[.pointer none,.int .i64 0] 108)).alloc (.cells #[.pointer q,.int .i64 (n:Int)] 106)):=(((Below.refl _ w).alloc (Nat.le_refl _) _).alloc (by simp) _).alloc (by simp;omega) _
 have A1:Ah mo c m ts t w.heap.size w ts t 0 pa q n ps (((w.alloc (.cells #[.pointer q,.int .i64 (n:Int)] 108)).alloc (.cells #[.pointer none,.int .i64 0] 108)).alloc (.cells #[.pointer q,.int .i64 (n:Int)] 106)) :=
  ⟨hta.stay hb,hl.stay hb,ht.kp (bO.below hb),b3,b2,by simpa using (dL.refl (N:=au) hm).stay hb,rfl,by omega,hlow,hok.rise,rfl⟩
 have HA:=hdz A1;have HN:=hdz (af h0 (af h1 (af h2 (af h3 (af hs (af hlen (af hok (af hk1 (af hk2 hlow)))))))));clear A1 b1 b2 b3 hb hh hl ht hm h0 h1 h2 h3 hs hlen hok hk1 hk2 hlow hta hnl;go_enter Tryz.func116,Tryz.ntmps116
 go_wp2_with fail
 go_step3
 go_wp2_with fail
 go_step3
 go_wp2_with fail
 generalize ((w.alloc (.cells #[.pointer q,.int .i64 (n:Int)] 108)).alloc (.cells #[.pointer none,.int .i64 0] 108)).alloc (.cells #[.pointer q,.int .i64 (n:Int)] 106)=w1 at *;obtain ⟨a,ha⟩:=aU (w.heap.size);rw [←ha]at HA ⊢;have HB:=hdz (Nat.le_of_eq ha.symm);clear ha;go_loopg [2] ts.length (fun k v wr => ∃(us:List ai) (u:ai) (d:Nat) (ua q:Option Addr) (n:Nat) (qs:List (Option Addr)),v=.pointer ua∧k=us.length∧Ah mo c m ts t a w us u d ua q n qs wr)
 case atStart=>exact ⟨ts,t,0,pa,q,n,ps,rfl,rfl,HA.out⟩
 case round =>
  clear HA;obtain ⟨us,u,d,ua,q,n,qs,rfl,hk,hA⟩:=hrel;have o0:=hA.o.c0;have o1:=hA.o.c1;have HA:=hdz hA;have hd:d≤bg ts t:=by have:=hA.dN;omega
  have hd2:=Ar ts t;have HD:=hdz (af hd hd2);clear hd hd2 hA; -- what comes behind the loop
  have fin:∀(W:World) (q2:Option Addr) (n2:Nat) (qs2:List (Option Addr)),Lt.LL W q2 n2 (ua::qs)→aS W us qs→gQ W ua (some u)→aB W (a+1) 108 (.pointer none) (.int .i64 0)→dL au mo w (c+d) (m+d) W→dx us u=u::us→bg us u=0 →
    bU mo (c+bg ts t) (m+bg ts t) ⟨dx ts t⟩ w (.returned (hp ⟨q2,(n2:Int)⟩)) ((W.setCell ⟨a+1,0,none⟩ (.pointer q2)).setCell ⟨a+1,1,none⟩ (.int .i64 (n2:Int))):=fun W q2 n2 _ hl2 ht2 hu2 hb2 hk2 hp hpN=>by
   have e1:bg ts t=d:=by have:=HA.out.dN;omega
   have hz:=hk2.eY hb2 aj (by decide) (by have:=HB.out;omega) (.pointer q2) (.int .i64 (n2:Int));have hg:=rQ ts t HN.out.2.2.2.2.2.2.2.1 HN.out.2.2.2.2.2.2.2.2.1 HN.out.2.2.2.2.2.2.2.2.2 HN.out.2.2.2.2.2.2.1.hok HN.out.2.2.2.2.2.2.1.bin HN.out.2.2.2.2.2.2.1.rise;refine ⟨⟨q2,(n2:Int)⟩,rfl,?_,e1▸hz.mt,hz.bt⟩;have hput:dx ts t=u::us:=by rw [←HA.out.put,hp]
   have hsz:ah (dx ts t)<268435456:=by rw [C8];exact HN.out.2.2.2.2.1
   have hokk:rX (dx ts t):=⟨hg.1,hg.2.1,hg.2.2.1⟩;rw [hput]at hsz hokk ⊢;exact aA.of (qf hl2 hb2 aj _ _) (aS.set2 (ts:=u::us) ⟨ua,qs,rfl,hu2,ht2⟩ hb2 aj _ _) hsz hokk
  have FIN:=hdz fin;clear fin
  cases us with
  | nil =>
   obtain rfl:qs=[]:=HA.out.tl;obtain rfl:q=none:=HA.out.ll.1;have hn0:n=0:=HA.out.ll.2.1;have HN0:=hdz hn0;clear hn0;clear hk;go_wp2_with fail
   ((with_reducible refine (Lt.kK _ _).mono ?_);rintro e w2 ⟨rfl,hb2⟩);have B2:=hdz (af (HA.out.o.stay hb2) (af (HA.out.r.stay hb2) (af (HA.out.k.stay hb2) (af (HA.out.tr.stay hb2) (HA.out.ll.stay hb2)))));have p0:=B2.out.1.c0;have p1:=B2.out.1.c1;clear hb2 o0 o1;go_wp2_with fail
   clear p0 p1;((with_reducible refine (Lt.pY ua B2.out.2.2.2.2 (by have:=HN0.out;omega)).mono ?_);rintro e w3 ⟨q3,n3,rfl,hl3,hb3⟩);have B3:=hdz (af (B2.out.2.1.stay hb3) (af (B2.out.2.2.1.stay hb3) (B2.out.2.2.2.1.stay hb3)));have z0:=B3.out.1.z0;have z1:=B3.out.1.z1;have y0:=B3.out.1.c0;have y1:=B3.out.1.c1;have G:=hdz (FIN.out w3 q3 n3 [] hl3 rfl B3.out.2.2 B3.out.1 B3.out.2.1 rfl rfl);have s0:=(B3.out.1.set (.pointer q3) (.int .i64 (n3:Int))).c0;have s1:=(B3.out.1.set (.pointer q3) (.int .i64 (n3:Int))).c1;clear hl3 hb3;go_wp2_with fail
   rw [Exit.noGoto_ret];exact bodyPost_ret (v:=hp ⟨q3,(n3:Int)⟩) (by simp [results,Tryz.results116,go_sem,s0,s1]) rfl G.out
  | cons x us =>
   obtain ⟨xa,qs,rfl,htx,hts⟩:=HA.out.tl;have hsz:=HA.out.size;have hll:=HA.out.ll;have hnq:n=(xa::qs).length:=hll.2.1;simp only [ah]at hsz;obtain ⟨rx,hrx⟩:=aU (x.rank);obtain ⟨ru,hru⟩:=aU (u.rank);have hle:ru≤rx:=by rw [hru,hrx];exact HA.out.low x (List.mem_cons_self ..)
   have HX:=hdz (af htx (af hts (af hrx (af hru (af hsz (af hnq (af hk hle)))))));have hcz:=Lt.jH q xa qs n wr hll.1;have HC:=hdz hcz;clear htx hts hrx hru hsz hll hnq hcz hk;go_wp2_with fail
   ((with_reducible refine HC.out.mono ?_);rintro e w2 ⟨rfl,hb2⟩);have B2:=hdz (af (HA.out.o.stay hb2) (af (HA.out.r.stay hb2) (af (HA.out.k.stay hb2) (af (HA.out.tr.stay hb2) (af (HA.out.ll.stay hb2) (af (HX.out.1.stay hb2) (HX.out.2.1.kp (bO.below hb2))))))));clear hb2 o0 o1 HC;go_wp2_with fail
   ((with_reducible refine (bC B2.out.2.2.2.2.2.1 rx HX.out.2.2.1).mono ?_);rintro e w3 ⟨rfl,hw3⟩);subst hw3;go_wp2_with fail
   ((with_reducible refine (bC B2.out.2.2.2.1 ru HX.out.2.2.2.1).mono ?_);rintro e w3 ⟨rfl,hw3⟩);subst hw3;by_cases heq:rx=ru
   ·have g1:((rx:Int) == (ru:Int))=true:=by simp;omega
    have g2:rx=ru:=heq;have p0:=B2.out.1.c0;have p1:=B2.out.1.c1;go_wp2_with fail
    go_region_with (first|(go_at_call 144;((with_reducible refine (Lt.oC B4.out.2.2.2.2.1).mono ?_);rintro e w5 ⟨q5,n5,rfl,hl5,hb5⟩;have B5:=hdz (af (B4.out.1.stay hb5) (af (B4.out.2.1.stay hb5) (af (B4.out.2.2.1.stay hb5) (af (B4.out.2.2.2.1.stay hb5) (af hl5 (B4.out.2.2.2.2.2.kp (bO.below hb5)))))));have x0:=B5.out.1.c0;have x1:=B5.out.1.c1;have z0:=B5.out.1.z0;have z1:=B5.out.1.z1;clear hl5 hb5))|(go_at_call 143;((with_reducible refine (jy mo (c+d) (m+d) ua xa (some u) (some x) _ B2.out.2.2.1.drew.mt (by have:=HN.out;omega) (by have:=HN.out;have:=HD.out;omega) (by have:=HN.out;omega) (by have:=HN.out;have:=HD.out;omega) (B2.out.2.2.2.1.stay ((Below.refl _ _).drew)) (B2.out.2.2.2.2.2.1.stay ((Below.refl _ _).drew)) (by have:=HX.out;have:=HN.out;simp only [bF];omega) (by have:=HX.out;have:=HN.out;simp only [bF];omega)).mono ?_);rintro e w4 ⟨p4,rfl,IC,hm4,hb4⟩;have B4:=hdz (af (B2.out.1.bt (((Bt.refl mo _).drew).trans hb4) B2.out.2.2.1.mt (by decide)) (af (B2.out.2.1.bt (((Bt.refl mo _).drew).trans hb4) B2.out.2.2.1.mt (by decide)) (af (B2.out.2.2.1.drew.turn hm4 hb4 ax) (af IC (af (He B2.out.2.2.2.2.1 (((Bt.refl mo _).drew).trans hb4) B2.out.2.2.1.mt) (B2.out.2.2.2.2.2.2.bt (((Bt.refl mo _).drew).trans hb4) B2.out.2.2.1.mt))))));have y0:=B4.out.1.c0;have y1:=B4.out.1.c1;clear IC hm4 hb4)))
    all_goals
     have X:=hdz (af (B5.out.1.set (.pointer q5) (.int .i64 (n5:Int))) (af (B5.out.2.1.aside (g:=a+2) (by omega) (.pointer q5) (.int .i64 (n5:Int))) (af (B5.out.2.2.1.eY B5.out.1 dh (by decide) (by have:=HB.out;omega) (.pointer q5) (.int .i64 (n5:Int))) (af (B5.out.2.2.2.1.kp (Kp.set2 B5.out.1 dh (.pointer q5) (.int .i64 (n5:Int))).tree) (af (qf B5.out.2.2.2.2.1 B5.out.1 dh (.pointer q5) (.int .i64 (n5:Int))) (B5.out.2.2.2.2.2.set2 B5.out.1 dh (.pointer q5) (.int .i64 (n5:Int))))))));go_wp2_with fail
     go_roundg us.length
     case measure=>have:=HX.out.2.2.2.2.2.2.1;simp only [List.length_cons]at this;omega
     case rel =>
      have hr:=HX.out.2.2.1;have hr2:=HX.out.2.2.2.1;have hlt:¬u.rank<x.rank:=by omega
      have hlr:=fA (a:=u) (b:=x) (by omega);have hp:=List.pairwise_cons.1 HA.out.rise;refine ⟨us,fu u x,d+1,p4,q5,n5,qs,rfl,rfl,⟨X.out.2.2.2.1,X.out.2.2.2.2.1,X.out.2.2.2.2.2,X.out.1,X.out.2.1,?_,?_,?_,?_,hp.2,?_⟩⟩
      ·have:=X.out.2.2.1;simp only [bZ]at this;have e1:c+((d+1:Nat):Int)=c+(d:Int)+((1:Nat):Int):=by omega
       have e2:m+((d+1:Nat):Int)=m+(d:Int)+((1:Nat):Int):=by omega
       rw [e1,e2];exact this
      ·rw [←HA.out.put,dx,if_neg hlt]
      ·have:=HA.out.dN;rw [bg,if_neg hlt]at this;omega
      ·intro y hy;rw [hlr];have:=hp.1 y hy;omega
      ·rw [jJ];have:=HX.out.2.2.2.2.1;omega
   ·have g1:((rx:Int) == (ru:Int))=false:=by simp;omega
    have g2:¬rx=ru:=heq;have p0:=B2.out.1.c0;have p1:=B2.out.1.c1;go_wp2_with fail
    clear p0 p1;((with_reducible refine (Lt.pY ua B2.out.2.2.2.2.1 (by have:=B2.out.2.2.2.2.2.2.length;have:=HX.out;have:=HN.out;have h8:=Lt.LL.len B2.out.2.2.2.2.1;have h9:=bW us;simp only [List.length_cons]at *;omega)).mono ?_);rintro e w3 ⟨q3,n3,rfl,hl3,hb3⟩);have B3:=hdz (af (B2.out.2.1.stay hb3) (af (B2.out.2.2.1.stay hb3) (af (B2.out.2.2.2.1.stay hb3) (af (B2.out.2.2.2.2.2.1.stay hb3) (B2.out.2.2.2.2.2.2.kp (bO.below hb3))))));have z0:=B3.out.1.z0;have z1:=B3.out.1.z1;have y0:=B3.out.1.c0;have y1:=B3.out.1.c1;have hlt:u.rank<x.rank:=by have:=HX.out;omega
    have G:=hdz (FIN.out w3 q3 n3 [] hl3 ⟨xa,qs,rfl,B3.out.2.2.2.1,B3.out.2.2.2.2⟩ B3.out.2.2.1 B3.out.1 B3.out.2.1 (by rw [dx,if_pos hlt]) (by rw [bg,if_pos hlt]));have s0:=(B3.out.1.set (.pointer q3) (.int .i64 (n3:Int))).c0;have s1:=(B3.out.1.set (.pointer q3) (.int .i64 (n3:Int))).c1;clear hl3 hb3 hlt;go_wp2_with fail
    rw [Exit.noGoto_ret];exact bodyPost_ret (v:=hp ⟨q3,(n3:Int)⟩) (by simp [results,Tryz.results116,go_sem,s0,s1]) rfl G.out
end Go.Proofs.YtmeodbjlmjpnbaaGreat.Bi.Hp
namespace Go.Proofs.YtmeodbjlmjpnbaaGreat.Bi.Hp
open Go.Sort Go.RowKit
theorem j6 {P:Program}{c:Code}{a:Act}{w:World}{Q:Exit→Act→World→Prop}(R:Act→Act→World→Prop)(h1:c.wp P (fun e a' w'=>e=.normal∧R a a' w') a w)(h2:∀a' w',R a a' w'→Q .normal a' w'):c.wp P Q a w :=
 Code.wp_mono (fun e a' w' h=>by obtain ⟨rfl,hr⟩:=h;exact h2 a' w' hr) h1
theorem jq:∀(x:Option Addr) (y:Int) (w:World),(Instr.field 108 (.agg #[.pointer x,.int .i64 y]) 0).run Tryz.prog w=.ok (.agg #[.pointer x,.int .i64 y]) w:=fun _ _ _=>by kernel_rfl
theorem bN {t:ai}{ts:List ai}{p:HP}{w:World}(h:aA w ⟨t::ts⟩ p):∃a,gQ w a (some t)∧Calls Tryz.prog 141 #[hp p] w fun e w'=>e=.returned (.tuple #[.pointer a,.bool true])∧Below w.heap.size w w':=by
 obtain ⟨ps,h1,⟨a,ps',rfl,h2,h2'⟩,h3,h4⟩:=h;exact ⟨a,h2,Lt.jH p.q a ps' p.n w h1⟩
theorem eB {p:HP}{w:World}(h:aA w .nil p):Calls Tryz.prog 141 #[hp p] w fun e w'=>e=.returned (.tuple #[.pointer none,.bool false])∧Below w.heap.size w w':=by
 obtain rfl:=h.no;exact Lt.kK 0 w
theorem gN {t:ai}{ts:List ai}{p:HP}{a:Option Addr}{w:World}(h:aA w ⟨ts⟩ p)(ht:gQ w a (some t))(hs:t.size+ah ts<268435456)(hk:rX (t::ts)):Calls Tryz.prog 145 #[hp p,.pointer a] w fun e w' => ∃p':HP,e=.returned (.agg #[.pointer p'.q,.int .i64 p'.n])∧aA w' ⟨t::ts⟩ p'∧Below w.heap.size w w':=by
 have hlen:=h.len;obtain ⟨ps,n,hn,hnl,hl,hts⟩:=h.list;change n=ts.length at hnl;change ts.length<_ at hlen;obtain ⟨q,pn⟩:=p;change pn=(n:Int) at hn;subst hn;refine (Lt.pY a hl (by omega)).mono fun e w' ⟨q',n',he,hl',hb⟩=>⟨⟨q',(n':Int)⟩,he,?_,hb⟩;exact aA.of (ts:=t::ts) hl' ⟨a,ps,rfl,ht.stay hb,hts.kp (bO.below hb)⟩ hs hk
structure Fm (W:World)(a:Nat)(p q:HP):Prop where
 h:aB W a 108 (.pointer p.q) (.int .i64 p.n)
 o:aB W (a+1) 108 (.pointer q.q) (.int .i64 q.n)
 r:aB W (a+2) 108 (.pointer none) (.int .i64 0)
section
variable {W W':World}{a:Nat}{p q:HP}{mo:Option Nat}{c m:Int}
theorem Fm.new (w:World)(p q:HP):Fm (((w.alloc (.cells #[.pointer p.q,.int .i64 p.n] 108)).alloc (.cells #[.pointer q.q,.int .i64 q.n] 108)).alloc (.cells #[.pointer none,.int .i64 0] 108)) w.heap.size p q:=by
 refine ⟨((aB.new w 108 _ _).alloc _).alloc _,?_,?_⟩
 ·have:=(aB.new (w.alloc (.cells #[.pointer p.q,.int .i64 p.n] 108)) 108 (.pointer q.q) (.int .i64 q.n)).alloc (.cells #[.pointer none,.int .i64 0] 108);simpa only [World.size_alloc] using this
 ·have:=aB.new ((w.alloc (.cells #[.pointer p.q,.int .i64 p.n] 108)).alloc (.cells #[.pointer q.q,.int .i64 q.n] 108)) 108 (.pointer none) (.int .i64 0);simpa only [World.size_alloc] using this
theorem Fm.stay (h:Fm W a p q)(hb:Below W.heap.size W W'):Fm W' a p q:=⟨h.h.stay hb,h.o.stay hb,h.r.stay hb⟩
theorem Fm.bt (h:Fm W a p q)(hb:Bt mo W W')(hm:aW W mo c m):Fm W' a p q:=⟨h.h.bt hb hm (by decide),h.o.bt hb hm (by decide),h.r.bt hb hm (by decide)⟩
end
theorem aY (w:World)(x y z:Obj):Below w.heap.size w (((w.alloc x).alloc y).alloc z):=(((Below.refl _ w).alloc (Nat.le_refl _) _).alloc (by simp) _).alloc (by simp;omega) _
def bQ (mo:Option Nat)(la bs:List ai):Prop:=∀(c m:Int) (p q:HP) (w:World),ah la+ah bs<268435456→aW w mo c m→0≤c→c<576460752303423488→0≤m→m<576460752303423488→aA w ⟨la⟩ p→aA w ⟨bs⟩ q →
 Calls Tryz.prog 357 #[hp p,aF mo,hp q] w (bU mo (c+aI la bs) (m+aI la bs) ⟨aP la bs⟩ w)
theorem ja (mo:Option Nat)(bs:List ai):bQ mo ([]) (bs):=by
 intro c m p q w hs hm h0 h1 h2 h3 ha hb;have HL:=hdz (af ha hb);have HF:=hdz (Fm.new w p q);have KK:=hdz ((dL.refl (N:=au) hm).stay (aY w (.cells #[.pointer p.q,.int .i64 p.n] 108) (.cells #[.pointer q.q,.int .i64 q.n] 108) (.cells #[.pointer none,.int .i64 0] 108)));have HN:=hdz (af hs (af h0 (af h1 (af h2 h3))));clear hs h0 h1 h2 h3 hm ha hb;go_enter Tryz.func357,Tryz.ntmps357
 go_wp2_with fail
 generalize ((w.alloc (.cells #[.pointer p.q,.int .i64 p.n] 108)).alloc (.cells #[.pointer q.q,.int .i64 q.n] 108)).alloc (.cells #[.pointer none,.int .i64 0] 108)=w1 at *;obtain ⟨a,ha⟩:=aU (w.heap.size);rw [←ha]at HF ⊢;have HA:=hdz ha;clear ha;((with_reducible refine (eB (HL.out.1.fQ KK.out.kp KK.out.bt.size)).mono ?_);rintro e w2 ⟨rfl,hb2⟩);have F2:=hdz (HF.out.stay hb2);have K2:=hdz (KK.out.stay hb2);have c0:=F2.out.o.c0;have c1:=F2.out.o.c1;have z0:=F2.out.r.z0;have z1:=F2.out.r.z1;have r0:=F2.out.r.c0;have r1:=F2.out.r.c1;have s0:=(F2.out.r.set (.pointer q.q) (.int .i64 q.n)).c0;have s1:=(F2.out.r.set (.pointer q.q) (.int .i64 q.n)).c1;clear hb2 HF KK;go_wp2_with fail
 have k:=K2.out.eY F2.out.r aj (by decide) (by have:=HA.out;omega) (.pointer q.q) (.int .i64 q.n);exact bodyPost_ret (v:=hp q) (by simp [results,Tryz.results357,go_sem,s0,s1]) rfl ⟨q,rfl,by rw [eU];exact HL.out.2.fQ k.kp k.bt.size,by rw [iH];simpa using k.mt,k.bt⟩
theorem ig (mo:Option Nat)(f:ai)(la:List ai):bQ mo (f::la) ([]):=by
 intro c m p q w hs hm h0 h1 h2 h3 ha hb;have HL:=hdz (af ha hb);have HF:=hdz (Fm.new w p q);have KK:=hdz ((dL.refl (N:=au) hm).stay (aY w (.cells #[.pointer p.q,.int .i64 p.n] 108) (.cells #[.pointer q.q,.int .i64 q.n] 108) (.cells #[.pointer none,.int .i64 0] 108)));have HN:=hdz (af hs (af h0 (af h1 (af h2 h3))));clear hs h0 h1 h2 h3 hm ha hb;go_enter Tryz.func357,Tryz.ntmps357
 go_wp2_with fail
 generalize ((w.alloc (.cells #[.pointer p.q,.int .i64 p.n] 108)).alloc (.cells #[.pointer q.q,.int .i64 q.n] 108)).alloc (.cells #[.pointer none,.int .i64 0] 108)=w1 at *;obtain ⟨a,ha⟩:=aU (w.heap.size);rw [←ha]at HF ⊢;have HA:=hdz ha;clear ha;obtain ⟨fa,hfa,hc⟩:=bN (HL.out.1.fQ KK.out.kp KK.out.bt.size);have HC:=hdz hc;have TF:=hdz hfa;clear hc hfa;((with_reducible refine HC.out.mono ?_);rintro e w2 ⟨rfl,hb2⟩);have F2:=hdz (HF.out.stay hb2);have K2:=hdz (KK.out.stay hb2);have T2:=hdz (TF.out.stay hb2);have c0:=F2.out.o.c0;have c1:=F2.out.o.c1;clear hb2 HF KK HC TF;go_wp2_with fail
 clear c0 c1;((with_reducible refine (eB (HL.out.2.fQ K2.out.kp K2.out.bt.size)).mono ?_);rintro e w3 ⟨rfl,hb3⟩);have F3:=hdz (F2.out.stay hb3);have K3:=hdz (K2.out.stay hb3);have c0:=F3.out.h.c0;have c1:=F3.out.h.c1;have z0:=F3.out.r.z0;have z1:=F3.out.r.z1;have r0:=F3.out.r.c0;have r1:=F3.out.r.c1;have s0:=(F3.out.r.set (.pointer p.q) (.int .i64 p.n)).c0;have s1:=(F3.out.r.set (.pointer p.q) (.int .i64 p.n)).c1;clear hb3 F2 K2 T2;go_wp2_with fail
 have k:=K3.out.eY F3.out.r aj (by decide) (by have:=HA.out;omega) (.pointer p.q) (.int .i64 p.n);exact bodyPost_ret (v:=hp p) (by simp [results,Tryz.results357,go_sem,s0,s1]) rfl ⟨p,rfl,by rw [dM];exact HL.out.1.fQ k.kp k.bt.size,by rw [gq];simpa using k.mt,k.bt⟩
theorem fw (mo:Option Nat)(f g:ai)(la bs:List ai)(hlt:f.rank<g.rank)(IH:bQ mo la (g::bs)):bQ mo (f::la) (g::bs):=by
 intro c m p q w hs hm h0 h1 h2 h3 ha hb;have HL:=hdz (af ha hb);have HF:=hdz (Fm.new w p q);have KK:=hdz ((dL.refl (N:=au) hm).stay (aY w (.cells #[.pointer p.q,.int .i64 p.n] 108) (.cells #[.pointer q.q,.int .i64 q.n] 108) (.cells #[.pointer none,.int .i64 0] 108)));unfold bQ at IH;have HI:=hdz IH;have HB1:=hdz (qC (f::la) (g::bs) ha.right.hok hb.right.hok ha.right.bin hb.right.bin ha.right.rise hb.right.rise);have HE:=hdz (af (iE hlt:aP (f::la) (g::bs)=_) (jR hlt:aI (f::la) (g::bs)=_));have hsz:=fe (f::la) (g::bs);rw [HE.out.1]at hsz;simp only [ah]at hs hsz;have HZ:=hdz hsz;clear hsz IH;have HN:=hdz (af hs (af h0 (af h1 (af h2 h3))));clear hs h0 h1 h2 h3 hm ha hb;go_enter Tryz.func357,Tryz.ntmps357
 go_wp2_with fail
 generalize ((w.alloc (.cells #[.pointer p.q,.int .i64 p.n] 108)).alloc (.cells #[.pointer q.q,.int .i64 q.n] 108)).alloc (.cells #[.pointer none,.int .i64 0] 108)=w1 at *;obtain ⟨a,ha⟩:=aU (w.heap.size);rw [←ha]at HF ⊢;have HA:=hdz ha;clear ha;obtain ⟨fa,hfa,hc⟩:=bN (HL.out.1.fQ KK.out.kp KK.out.bt.size);have HC:=hdz hc;have TF:=hdz hfa;clear hc hfa;((with_reducible refine HC.out.mono ?_);rintro e w2 ⟨rfl,hb2⟩);have F2:=hdz (HF.out.stay hb2);have K2:=hdz (KK.out.stay hb2);have T2:=hdz (TF.out.stay hb2);have c0:=F2.out.o.c0;have c1:=F2.out.o.c1;clear hb2 HF KK HC TF;go_wp2_with fail
 clear c0 c1;obtain ⟨ga,hga,hc⟩:=bN (HL.out.2.fQ K2.out.kp K2.out.bt.size);have HC:=hdz hc;have TG:=hdz hga;clear hc hga;((with_reducible refine HC.out.mono ?_);rintro e w3 ⟨rfl,hb3⟩);have F3:=hdz (F2.out.stay hb3);have K3:=hdz (K2.out.stay hb3);have T3:=hdz (af (T2.out.stay hb3) (TG.out.stay hb3));clear hb3 F2 K2 T2 HC TG;obtain ⟨rf,hrf⟩:=aU (f.rank);obtain ⟨rg,hrg⟩:=aU (g.rank);have HRK:=hdz (af hrf hrg);rw [←hrf,←hrg]at hlt;clear hrf hrg;go_wp2_with fail
 ((with_reducible refine (bC T3.out.1 rf HRK.out.1).mono ?_);rintro e w4 ⟨rfl,hw4⟩);subst hw4;go_wp2_with fail
 have d0:decide ((rf:Int)<(rg:Int))=true:=by first|omega|(simp;omega)|rfl
 have d1:decide (rf<rg)=true:=by first|omega|(simp;omega)|rfl
 have d2:(rf:Int)<(rg:Int):=by first|omega|(simp;omega)|rfl
 have d3:rf<rg:=by first|omega|(simp;omega)|rfl
 ((with_reducible refine (bC T3.out.2 rg HRK.out.2).mono ?_);rintro e w4 ⟨rfl,hw4⟩);subst hw4;go_wp2_with fail
 have s3_0:=F3.out.h.c0;have s3_1:=F3.out.h.c1;have s3_2:=F3.out.o.c0;have s3_3:=F3.out.o.c1;have TT:=hdz (T3.out.1);have hfd:=jq;have n5:¬a=a+1+1:=by omega
 have n6:¬a+1+1=a:=by omega
 go_region_held3 (fun w'=>w'.cell? ⟨a,0,none⟩=some (.pointer p.q)∧w'.cell? ⟨a,1,none⟩=some (.int .i64 p.n)∧w'.cell? ⟨a+1,0,none⟩=some (.pointer q.q)∧w'.cell? ⟨a+1,1,none⟩=some (.int .i64 q.n)) (go_keep)
  (first|(go_at_call 145;((with_reducible refine (gN L5.out (TK.out) (by have:=HN.out;have:=HZ.out;omega) (HE.out.1▸⟨HB1.out.1,HB1.out.2.1,HB1.out.2.2.1⟩)).mono ?_);rintro e w6 ⟨p6,rfl,Io,hb6⟩;have F6:=hdz (F5.out.stay hb6);have K6:=hdz (K5.out.stay hb6);have L6:=hdz Io;have s6_0:=F6.out.h.c0;have s6_1:=F6.out.h.c1;have s6_2:=F6.out.o.c0;have s6_3:=F6.out.o.c1;have z0:=F6.out.r.z0;have z1:=F6.out.r.z1;have r0:=F6.out.r.c0;have r1:=F6.out.r.c1;clear Io hb6))|(go_at_call 361;((with_reducible refine (bS f la p _ ((HL.out.1.fQ K3.out.drew.kp K3.out.drew.bt.size))).mono ?_);rintro e w4 ⟨p4,rfl,IC,hb4⟩;have F4:=hdz ((F3.out.stay ((Below.refl _ _).drew)).stay hb4);have K4:=hdz (K3.out.drew.stay hb4);have L4:=hdz IC;have TT4:=hdz ((TT.out.stay ((Below.refl _ _).drew)).stay hb4);have s4_0:=F4.out.h.c0;have s4_1:=F4.out.h.c1;have s4_2:=F4.out.o.c0;have s4_3:=F4.out.o.c1;clear IC hb4))|(go_at_call 357;((with_reducible refine (HI.out c m p4 q _ (by have:=HN.out;(try simp only [ah]);omega) K4.out.mt HN.out.2.1 HN.out.2.2.1 HN.out.2.2.2.1 HN.out.2.2.2.2 L4.out (HL.out.2.fQ K4.out.kp K4.out.bt.size)).mono ?_);rintro e w5 ⟨p5,rfl,Ip,Im,hb5⟩;have F5:=hdz (F4.out.bt hb5 K4.out.mt);have K5:=hdz (K4.out.turn Im hb5 ax);have L5:=hdz Ip;have TK:=hdz ((TT4.out).kp (Kp.tree (Kp.bt hb5 K4.out.mt)));have s5_0:=F5.out.h.c0;have s5_1:=F5.out.h.c1;have s5_2:=F5.out.o.c0;have s5_3:=F5.out.o.c1;clear Ip Im hb5)))
 go_wp2_with fail
 have s0:=(F6.out.r.set (.pointer p6.q) (.int .i64 p6.n)).c0;have s1:=(F6.out.r.set (.pointer p6.q) (.int .i64 p6.n)).c1;have k:=K6.out.eY F6.out.r aj (by decide) (by have:=HA.out;omega) (.pointer p6.q) (.int .i64 p6.n);exact bodyPost_ret (v:=hp p6) (by simp [results,Tryz.results357,go_sem,s0,s1]) rfl ⟨p6,rfl,by rw [HE.out.1];exact L6.out.set2 F6.out.r aj _ _,by rw [HE.out.2];exact k.mt,k.bt⟩
theorem um (mo:Option Nat)(f g:ai)(la bs:List ai)(hlt:g.rank<f.rank)(IH:bQ mo (f::la) bs):bQ mo (f::la) (g::bs):=by
 intro c m p q w hs hm h0 h1 h2 h3 ha hb;have HL:=hdz (af ha hb);have HF:=hdz (Fm.new w p q);have KK:=hdz ((dL.refl (N:=au) hm).stay (aY w (.cells #[.pointer p.q,.int .i64 p.n] 108) (.cells #[.pointer q.q,.int .i64 q.n] 108) (.cells #[.pointer none,.int .i64 0] 108)));unfold bQ at IH;have HI:=hdz IH;have HB1:=hdz (qC (f::la) (g::bs) ha.right.hok hb.right.hok ha.right.bin hb.right.bin ha.right.rise hb.right.rise);have HE:=hdz (af (iK hlt:aP (f::la) (g::bs)=_) (kP hlt:aI (f::la) (g::bs)=_));have hsz:=fe (f::la) (g::bs);rw [HE.out.1]at hsz;simp only [ah]at hs hsz;have HZ:=hdz hsz;clear hsz IH;have HN:=hdz (af hs (af h0 (af h1 (af h2 h3))));clear hs h0 h1 h2 h3 hm ha hb;go_enter Tryz.func357,Tryz.ntmps357
 go_wp2_with fail
 generalize ((w.alloc (.cells #[.pointer p.q,.int .i64 p.n] 108)).alloc (.cells #[.pointer q.q,.int .i64 q.n] 108)).alloc (.cells #[.pointer none,.int .i64 0] 108)=w1 at *;obtain ⟨a,ha⟩:=aU (w.heap.size);rw [←ha]at HF ⊢;have HA:=hdz ha;clear ha;obtain ⟨fa,hfa,hc⟩:=bN (HL.out.1.fQ KK.out.kp KK.out.bt.size);have HC:=hdz hc;have TF:=hdz hfa;clear hc hfa;((with_reducible refine HC.out.mono ?_);rintro e w2 ⟨rfl,hb2⟩);have F2:=hdz (HF.out.stay hb2);have K2:=hdz (KK.out.stay hb2);have T2:=hdz (TF.out.stay hb2);have c0:=F2.out.o.c0;have c1:=F2.out.o.c1;clear hb2 HF KK HC TF;go_wp2_with fail
 clear c0 c1;obtain ⟨ga,hga,hc⟩:=bN (HL.out.2.fQ K2.out.kp K2.out.bt.size);have HC:=hdz hc;have TG:=hdz hga;clear hc hga;((with_reducible refine HC.out.mono ?_);rintro e w3 ⟨rfl,hb3⟩);have F3:=hdz (F2.out.stay hb3);have K3:=hdz (K2.out.stay hb3);have T3:=hdz (af (T2.out.stay hb3) (TG.out.stay hb3));clear hb3 F2 K2 T2 HC TG;obtain ⟨rf,hrf⟩:=aU (f.rank);obtain ⟨rg,hrg⟩:=aU (g.rank);have HRK:=hdz (af hrf hrg);rw [←hrf,←hrg]at hlt;clear hrf hrg;go_wp2_with fail
 ((with_reducible refine (bC T3.out.1 rf HRK.out.1).mono ?_);rintro e w4 ⟨rfl,hw4⟩);subst hw4;go_wp2_with fail
 have d0:decide ((rf:Int)<(rg:Int))=false:=by first|omega|(simp;omega)|rfl
 have d1:decide (rf<rg)=false:=by first|omega|(simp;omega)|rfl
 have d2:¬(rf:Int)<(rg:Int):=by first|omega|(simp;omega)|rfl
 have d3:¬rf<rg:=by first|omega|(simp;omega)|rfl
 ((with_reducible refine (bC T3.out.2 rg HRK.out.2).mono ?_);rintro e w4 ⟨rfl,hw4⟩);subst hw4;go_wp2_with fail
 clear d0 d1 d2 d3;((with_reducible refine (bC T3.out.2 rg HRK.out.2).mono ?_);rintro e w4 ⟨rfl,hw4⟩);subst hw4;go_wp2_with fail
 have d0:decide ((rg:Int)<(rf:Int))=true:=by first|omega|(simp;omega)|rfl
 have d1:decide (rg<rf)=true:=by first|omega|(simp;omega)|rfl
 have d2:(rg:Int)<(rf:Int):=by first|omega|(simp;omega)|rfl
 have d3:rg<rf:=by first|omega|(simp;omega)|rfl
 ((with_reducible refine (bC T3.out.1 rf HRK.out.1).mono ?_);rintro e w4 ⟨rfl,hw4⟩);subst hw4;go_wp2_with fail
 have s3_0:=F3.out.h.c0;have s3_1:=F3.out.h.c1;have s3_2:=F3.out.o.c0;have s3_3:=F3.out.o.c1;have TT:=hdz (T3.out.2);have hfd:=jq;have n5:¬a=a+1+1:=by omega
 have n6:¬a+1+1=a:=by omega
 go_region_held3 (fun w'=>w'.cell? ⟨a,0,none⟩=some (.pointer p.q)∧w'.cell? ⟨a,1,none⟩=some (.int .i64 p.n)∧w'.cell? ⟨a+1,0,none⟩=some (.pointer q.q)∧w'.cell? ⟨a+1,1,none⟩=some (.int .i64 q.n)) (go_keep)
  (first|(go_at_call 145;((with_reducible refine (gN L5.out (TK.out) (by have:=HN.out;have:=HZ.out;omega) (HE.out.1▸⟨HB1.out.1,HB1.out.2.1,HB1.out.2.2.1⟩)).mono ?_);rintro e w6 ⟨p6,rfl,Io,hb6⟩;have F6:=hdz (F5.out.stay hb6);have K6:=hdz (K5.out.stay hb6);have L6:=hdz Io;have s6_0:=F6.out.h.c0;have s6_1:=F6.out.h.c1;have s6_2:=F6.out.o.c0;have s6_3:=F6.out.o.c1;have z0:=F6.out.r.z0;have z1:=F6.out.r.z1;have r0:=F6.out.r.c0;have r1:=F6.out.r.c1;clear Io hb6))|(go_at_call 361;((with_reducible refine (bS g bs q _ ((HL.out.2.fQ K3.out.drew.kp K3.out.drew.bt.size))).mono ?_);rintro e w4 ⟨p4,rfl,IC,hb4⟩;have F4:=hdz ((F3.out.stay ((Below.refl _ _).drew)).stay hb4);have K4:=hdz (K3.out.drew.stay hb4);have L4:=hdz IC;have TT4:=hdz ((TT.out.stay ((Below.refl _ _).drew)).stay hb4);have s4_0:=F4.out.h.c0;have s4_1:=F4.out.h.c1;have s4_2:=F4.out.o.c0;have s4_3:=F4.out.o.c1;clear IC hb4))|(go_at_call 357;((with_reducible refine (HI.out c m p p4 _ (by have:=HN.out;(try simp only [ah]);omega) K4.out.mt HN.out.2.1 HN.out.2.2.1 HN.out.2.2.2.1 HN.out.2.2.2.2 (HL.out.1.fQ K4.out.kp K4.out.bt.size) L4.out).mono ?_);rintro e w5 ⟨p5,rfl,Ip,Im,hb5⟩;have F5:=hdz (F4.out.bt hb5 K4.out.mt);have K5:=hdz (K4.out.turn Im hb5 ax);have L5:=hdz Ip;have TK:=hdz ((TT4.out).kp (Kp.tree (Kp.bt hb5 K4.out.mt)));have s5_0:=F5.out.h.c0;have s5_1:=F5.out.h.c1;have s5_2:=F5.out.o.c0;have s5_3:=F5.out.o.c1;clear Ip Im hb5)))
 go_wp2_with fail
 have s0:=(F6.out.r.set (.pointer p6.q) (.int .i64 p6.n)).c0;have s1:=(F6.out.r.set (.pointer p6.q) (.int .i64 p6.n)).c1;have k:=K6.out.eY F6.out.r aj (by decide) (by have:=HA.out;omega) (.pointer p6.q) (.int .i64 p6.n);exact bodyPost_ret (v:=hp p6) (by simp [results,Tryz.results357,go_sem,s0,s1]) rfl ⟨p6,rfl,by rw [HE.out.1];exact L6.out.set2 F6.out.r aj _ _,by rw [HE.out.2];exact k.mt,k.bt⟩
theorem uJ (mo:Option Nat)(f g:ai)(la bs:List ai)(hlt:f.rank=g.rank)(IH:bQ mo la bs):bQ mo (f::la) (g::bs):=by
 intro c m p q w hs hm h0 h1 h2 h3 ha hb;have HL:=hdz (af ha hb);have HF:=hdz (Fm.new w p q);have KK:=hdz ((dL.refl (N:=au) hm).stay (aY w (.cells #[.pointer p.q,.int .i64 p.n] 108) (.cells #[.pointer q.q,.int .i64 q.n] 108) (.cells #[.pointer none,.int .i64 0] 108)));unfold bQ at IH;have HI:=hdz IH;have HEQ:=hdz hlt;have HB1:=hdz (af (show rX (f::la) from ha.right) (show rX (g::bs) from hb.right));have HE:=hdz (af (iD hlt:aP (f::la) (g::bs)=_) (jO hlt:aI (f::la) (g::bs)=_));have hsz:=fe la bs;have hln:=kH la bs;have hl1:=bW la;have hl2:=bW bs;simp only [ah]at hs;have HZ:=hdz (show ah (aP la bs)=ah la+ah bs∧aI la bs<268435456 from ⟨hsz,by simp only [ai.size]at hs;omega⟩);clear hsz IH hln hl1 hl2;have HN:=hdz (af hs (af h0 (af h1 (af h2 h3))));clear hs h0 h1 h2 h3 hm ha hb;go_enter Tryz.func357,Tryz.ntmps357
 go_wp2_with fail
 generalize ((w.alloc (.cells #[.pointer p.q,.int .i64 p.n] 108)).alloc (.cells #[.pointer q.q,.int .i64 q.n] 108)).alloc (.cells #[.pointer none,.int .i64 0] 108)=w1 at *;obtain ⟨a,ha⟩:=aU (w.heap.size);rw [←ha]at HF ⊢;have HA:=hdz ha;clear ha;obtain ⟨fa,hfa,hc⟩:=bN (HL.out.1.fQ KK.out.kp KK.out.bt.size);have HC:=hdz hc;have TF:=hdz hfa;clear hc hfa;((with_reducible refine HC.out.mono ?_);rintro e w2 ⟨rfl,hb2⟩);have F2:=hdz (HF.out.stay hb2);have K2:=hdz (KK.out.stay hb2);have T2:=hdz (TF.out.stay hb2);have c0:=F2.out.o.c0;have c1:=F2.out.o.c1;clear hb2 HF KK HC TF;go_wp2_with fail
 clear c0 c1;obtain ⟨ga,hga,hc⟩:=bN (HL.out.2.fQ K2.out.kp K2.out.bt.size);have HC:=hdz hc;have TG:=hdz hga;clear hc hga;((with_reducible refine HC.out.mono ?_);rintro e w3 ⟨rfl,hb3⟩);have F3:=hdz (F2.out.stay hb3);have K3:=hdz (K2.out.stay hb3);have T3:=hdz (af (T2.out.stay hb3) (TG.out.stay hb3));clear hb3 F2 K2 T2 HC TG;obtain ⟨rf,hrf⟩:=aU (f.rank);obtain ⟨rg,hrg⟩:=aU (g.rank);have HRK:=hdz (af hrf hrg);rw [←hrf,←hrg]at hlt;clear hrf hrg;go_wp2_with fail
 ((with_reducible refine (bC T3.out.1 rf HRK.out.1).mono ?_);rintro e w4 ⟨rfl,hw4⟩);subst hw4;go_wp2_with fail
 have d0:decide ((rf:Int)<(rg:Int))=false:=by first|omega|(simp;omega)|rfl
 have d1:decide (rf<rg)=false:=by first|omega|(simp;omega)|rfl
 have d2:¬(rf:Int)<(rg:Int):=by first|omega|(simp;omega)|rfl
 have d3:¬rf<rg:=by first|omega|(simp;omega)|rfl
 ((with_reducible refine (bC T3.out.2 rg HRK.out.2).mono ?_);rintro e w4 ⟨rfl,hw4⟩);subst hw4;go_wp2_with fail
 clear d0 d1 d2 d3;((with_reducible refine (bC T3.out.2 rg HRK.out.2).mono ?_);rintro e w4 ⟨rfl,hw4⟩);subst hw4;go_wp2_with fail
 have d0:decide ((rg:Int)<(rf:Int))=false:=by first|omega|(simp;omega)|rfl
 have d1:decide (rg<rf)=false:=by first|omega|(simp;omega)|rfl
 have d2:¬(rg:Int)<(rf:Int):=by first|omega|(simp;omega)|rfl
 have d3:¬rg<rf:=by first|omega|(simp;omega)|rfl
 ((with_reducible refine (bC T3.out.1 rf HRK.out.1).mono ?_);rintro e w4 ⟨rfl,hw4⟩);subst hw4;go_wp2_with fail
 clear d0 d1 d2 d3 hlt;refine j6 (R:=fun x x' w' => ∃(u59 u60 u61 u62 u63 u64:Value) (v:Nat) (p5:HP),x'=(((((((x.put (some 59) u59).put (some 60) u60).put (some 61) u61).put (some 62) u62).put (some 63) u63).put (some 64) u64).put (some 10) (.pointer (some ⟨v,0,none⟩)))∧Bt mo w4 w'∧aW w' mo (c+(aI la bs:Nat)) (m+(aI la bs:Nat))∧w4.heap.size≤v∧aB w' v 108 (.pointer p5.q) (.int .i64 p5.n)∧aA w' ⟨aP la bs⟩ p5) ?_ ?_
 ·have HS:=hdz (fun (w':World) (hz:Bt mo w4 w')=>(show w'.cell? ⟨a,0,none⟩=some (.pointer p.q)∧w'.cell? ⟨a,1,none⟩=some (.int .i64 p.n)∧w'.cell? ⟨a+1,0,none⟩=some (.pointer q.q)∧w'.cell? ⟨a+1,1,none⟩=some (.int .i64 q.n) from ⟨(F3.out.bt hz K3.out.mt).h.c0,(F3.out.bt hz K3.out.mt).h.c1,(F3.out.bt hz K3.out.mt).o.c0,(F3.out.bt hz K3.out.mt).o.c1⟩));have hB:=(Bt.refl mo w4).drew;have hM:=K3.out.mt.drew;have IE:=HL.out.1.fQ K3.out.drew.kp K3.out.drew.bt.size;have Iq:=HL.out.2.fQ K3.out.drew.kp K3.out.drew.bt.size;refine wp_region_noPanic ?_;refine wp_region_held_drew (S:=fun w'=>w'.cell? ⟨a,0,none⟩=some (.pointer p.q)∧w'.cell? ⟨a,1,none⟩=some (.int .i64 p.n)∧w'.cell? ⟨a+1,0,none⟩=some (.pointer q.q)∧w'.cell? ⟨a+1,1,none⟩=some (.int .i64 q.n)) (by kernel_rfl) (HS.out _ hB) (fun hH=>?_);generalize w4.drew=wd at *;refine tk 0 hH ?_;try simp only [aZ]
  refine tk 2 hH ?_;try simp only [aZ]
  refine tk 3 hH ?_;try simp only [aZ]
  refine uw 1 6 (fun K hK=>?_) (fun K hK=>?_)
  ·go_simp;go_at_call 361
   (with_reducible refine (bS f la p _ IE).mono ?_);rintro e w5 ⟨p1,rfl,ht1,hb⟩;replace Iq:=Iq.stay hb;replace hB:=hB.trans (Bt.aV hb);replace hM:=hM.stay hb;clear hb IE;refine hK.out _ _ ?_ (fun hH2=>?_)
   ·exact HS.out _ hB
   clear hK K hH;have hH:=hH2;clear hH2;try simp only [aZ]
   refine uw 4 6 (fun K hK=>?_) (fun K hK=>?_)
   ·go_simp;go_at_call 361
    (with_reducible refine (bS g bs q _ Iq).mono ?_);rintro e w6 ⟨p2,rfl,ht2,hb⟩;replace ht1:=ht1.stay hb;replace hB:=hB.trans (Bt.aV hb);replace hM:=hM.stay hb;clear hb Iq;refine hK.out _ _ ?_ (fun hH2=>?_)
    ·exact HS.out _ hB
    clear hK K hH;have hH:=hH2;clear hH2;try simp only [aZ]
    refine uw 5 6 (fun K hK=>?_) (fun K hK=>?_)
    focus
     go_simp;go_at_call 357
     (with_reducible refine (HI.out c m p1 p2 _ (by have:=HN.out;omega) hM HN.out.2.1 HN.out.2.2.1 HN.out.2.2.2.1 HN.out.2.2.2.2 ht1 ht2).mono ?_);rintro e w7 ⟨p5,rfl,Ip,Im,hb⟩;replace hB:=hB.trans hb;replace hM:=Im;clear hb Im ht1 ht2;refine hK.out _ _ ?_ (fun hH2=>?_)
     ·exact HS.out _ hB
     clear hK K hH;have hH:=hH2;clear hH2;try simp only [aZ]
     refine eD 6 (fun K hK=>?_);go_simp;refine hK.out _ _ ?_ (fun hH2=>?_)
     ·exact HS.out _ (hB.alloc _)
     clear hK K hH;have hH:=hH2;clear hH2;have hv:=aB.new w7 108 (.pointer none) (.int .i64 0);have hV:w4.heap.size≤w7.heap.size:=hB.size;replace Ip:=Ip.stay (bG (.cells #[.pointer none,.int .i64 0] 108));replace hB:=hB.alloc (.cells #[.pointer none,.int .i64 0] 108);replace hM:=hM.alloc (.cells #[.pointer none,.int .i64 0] 108);obtain ⟨v,hve⟩:=aU (w7.heap.size);rw [←hve]at hv hV ⊢;clear hve;generalize w7.alloc (.cells #[.pointer none,.int .i64 0] 108)=wA at *
    rotate_left
    focus
     go_simp;refine hK.out _ _ ?_ (fun hH2=>?_)
     ·exact HS.out _ (hB.alloc _)
     clear hK K hH;have hH:=hH2;clear hH2;have hv:=aB.new w6 108 (.pointer none) (.int .i64 0);have hV:w4.heap.size≤w6.heap.size:=hB.size;replace ht1:=ht1.stay (bG (.cells #[.pointer none,.int .i64 0] 108));replace ht2:=ht2.stay (bG (.cells #[.pointer none,.int .i64 0] 108));replace hB:=hB.alloc (.cells #[.pointer none,.int .i64 0] 108);replace hM:=hM.alloc (.cells #[.pointer none,.int .i64 0] 108);obtain ⟨v,hve⟩:=aU (w6.heap.size);rw [←hve]at hv hV ⊢;clear hve;generalize w6.alloc (.cells #[.pointer none,.int .i64 0] 108)=wA at *;try simp only [aZ]
     refine eD 5 (fun K hK=>?_);go_simp;go_at_call 357
     (with_reducible refine (HI.out c m p1 p2 _ (by have:=HN.out;omega) hM HN.out.2.1 HN.out.2.2.1 HN.out.2.2.2.1 HN.out.2.2.2.2 ht1 ht2).mono ?_);rintro e w7 ⟨p5,rfl,Ip,Im,hb⟩;replace hv:=hv.bt hb hM (by decide);replace hB:=hB.trans hb;replace hM:=Im;clear hb Im ht1 ht2;refine hK.out _ _ ?_ (fun hH2=>?_)
     ·exact HS.out _ hB
     clear hK K hH;have hH:=hH2;clear hH2
    rotate_left
    all_goals
     try simp only [aZ]
     have vc0:=hv.c0;have vc1:=hv.c1;have vz0:=hv.z0;have vz1:=hv.z1;refine eD 7 (fun K hK=>?_);go_simp;refine hK.out _ _ ?_ (fun hH2=>?_)
     ·exact HS.out _ ((hB.own hV 0 _).own hV 1 _)
     clear hK K hH;have hH:=hH2;clear hH2;have hv2:=hv.set (.pointer p5.q) (.int .i64 p5.n);have Io:=Ip.set2 hv aj (.pointer p5.q) (.int .i64 p5.n);have hB2:=(hB.own hV 0 (.pointer p5.q)).own hV 1 (.int .i64 p5.n);have hM2:=(hM.other hv (by decide) 0 (.pointer p5.q)).other (hv.set0 (.pointer p5.q)) (by decide) 1 (.int .i64 p5.n);clear vc0 vc1 vz0 vz1;try simp only [aZ]
     refine dn ?_;clear hH;exact ⟨rfl,_,_,_,_,_,_,v,p5,by (try simp only [aZ]);rfl,hB2,hM2,hV,hv2,Io⟩
   ·go_simp;refine hK.out _ _ ?_ (fun hH2=>?_)
    ·exact HS.out _ (hB.alloc _)
    clear hK K hH;have hH:=hH2;clear hH2;have hv:=aB.new w5 108 (.pointer none) (.int .i64 0);have hV:w4.heap.size≤w5.heap.size:=hB.size;replace ht1:=ht1.stay (bG (.cells #[.pointer none,.int .i64 0] 108));replace Iq:=Iq.stay (bG (.cells #[.pointer none,.int .i64 0] 108));replace hB:=hB.alloc (.cells #[.pointer none,.int .i64 0] 108);replace hM:=hM.alloc (.cells #[.pointer none,.int .i64 0] 108);obtain ⟨v,hve⟩:=aU (w5.heap.size);rw [←hve]at hv hV ⊢;clear hve;generalize w5.alloc (.cells #[.pointer none,.int .i64 0] 108)=wA at *;try simp only [aZ]
    refine eD 4 (fun K hK=>?_);go_simp;go_at_call 361
    (with_reducible refine (bS g bs q _ Iq).mono ?_);rintro e w6 ⟨p2,rfl,ht2,hb⟩;replace ht1:=ht1.stay hb;replace hB:=hB.trans (Bt.aV hb);replace hM:=hM.stay hb;replace hv:=hv.stay hb;clear hb Iq;refine hK.out _ _ ?_ (fun hH2=>?_)
    ·exact HS.out _ hB
    clear hK K hH;have hH:=hH2;clear hH2;try simp only [aZ]
    refine eD 5 (fun K hK=>?_);go_simp;go_at_call 357
    (with_reducible refine (HI.out c m p1 p2 _ (by have:=HN.out;omega) hM HN.out.2.1 HN.out.2.2.1 HN.out.2.2.2.1 HN.out.2.2.2.2 ht1 ht2).mono ?_);rintro e w7 ⟨p5,rfl,Ip,Im,hb⟩;replace hv:=hv.bt hb hM (by decide);replace hB:=hB.trans hb;replace hM:=Im;clear hb Im ht1 ht2;refine hK.out _ _ ?_ (fun hH2=>?_)
    ·exact HS.out _ hB
    clear hK K hH;have hH:=hH2;clear hH2;try simp only [aZ]
    have vc0:=hv.c0;have vc1:=hv.c1;have vz0:=hv.z0;have vz1:=hv.z1;refine eD 7 (fun K hK=>?_);go_simp;refine hK.out _ _ ?_ (fun hH2=>?_)
    ·exact HS.out _ ((hB.own hV 0 _).own hV 1 _)
    clear hK K hH;have hH:=hH2;clear hH2;have hv2:=hv.set (.pointer p5.q) (.int .i64 p5.n);have Io:=Ip.set2 hv aj (.pointer p5.q) (.int .i64 p5.n);have hB2:=(hB.own hV 0 (.pointer p5.q)).own hV 1 (.int .i64 p5.n);have hM2:=(hM.other hv (by decide) 0 (.pointer p5.q)).other (hv.set0 (.pointer p5.q)) (by decide) 1 (.int .i64 p5.n);clear vc0 vc1 vz0 vz1;try simp only [aZ]
    refine dn ?_;clear hH;exact ⟨rfl,_,_,_,_,_,_,v,p5,by (try simp only [aZ]);rfl,hB2,hM2,hV,hv2,Io⟩
  ·go_simp;refine hK.out _ _ ?_ (fun hH2=>?_)
   ·exact HS.out _ (hB.alloc _)
   clear hK K hH;have hH:=hH2;clear hH2;have hv:=aB.new wd 108 (.pointer none) (.int .i64 0);have hV:w4.heap.size≤wd.heap.size:=hB.size;replace IE:=IE.stay (bG (.cells #[.pointer none,.int .i64 0] 108));replace Iq:=Iq.stay (bG (.cells #[.pointer none,.int .i64 0] 108));replace hB:=hB.alloc (.cells #[.pointer none,.int .i64 0] 108);replace hM:=hM.alloc (.cells #[.pointer none,.int .i64 0] 108);obtain ⟨v,hve⟩:=aU (wd.heap.size);rw [←hve]at hv hV ⊢;clear hve;generalize wd.alloc (.cells #[.pointer none,.int .i64 0] 108)=wA at *;try simp only [aZ]
   refine eD 1 (fun K hK=>?_);go_simp;go_at_call 361
   (with_reducible refine (bS f la p _ IE).mono ?_);rintro e w5 ⟨p1,rfl,ht1,hb⟩;replace Iq:=Iq.stay hb;replace hB:=hB.trans (Bt.aV hb);replace hM:=hM.stay hb;replace hv:=hv.stay hb;clear hb IE;refine hK.out _ _ ?_ (fun hH2=>?_)
   ·exact HS.out _ hB
   clear hK K hH;have hH:=hH2;clear hH2;try simp only [aZ]
   refine eD 4 (fun K hK=>?_);go_simp;go_at_call 361
   (with_reducible refine (bS g bs q _ Iq).mono ?_);rintro e w6 ⟨p2,rfl,ht2,hb⟩;replace ht1:=ht1.stay hb;replace hB:=hB.trans (Bt.aV hb);replace hM:=hM.stay hb;replace hv:=hv.stay hb;clear hb Iq;refine hK.out _ _ ?_ (fun hH2=>?_)
   ·exact HS.out _ hB
   clear hK K hH;have hH:=hH2;clear hH2;try simp only [aZ]
   refine eD 5 (fun K hK=>?_);go_simp;go_at_call 357
   (with_reducible refine (HI.out c m p1 p2 _ (by have:=HN.out;omega) hM HN.out.2.1 HN.out.2.2.1 HN.out.2.2.2.1 HN.out.2.2.2.2 ht1 ht2).mono ?_);rintro e w7 ⟨p5,rfl,Ip,Im,hb⟩;replace hv:=hv.bt hb hM (by decide);replace hB:=hB.trans hb;replace hM:=Im;clear hb Im ht1 ht2;refine hK.out _ _ ?_ (fun hH2=>?_)
   ·exact HS.out _ hB
   clear hK K hH;have hH:=hH2;clear hH2;try simp only [aZ]
   have vc0:=hv.c0;have vc1:=hv.c1;have vz0:=hv.z0;have vz1:=hv.z1;refine eD 7 (fun K hK=>?_);go_simp;refine hK.out _ _ ?_ (fun hH2=>?_)
   ·exact HS.out _ ((hB.own hV 0 _).own hV 1 _)
   clear hK K hH;have hH:=hH2;clear hH2;have hv2:=hv.set (.pointer p5.q) (.int .i64 p5.n);have Io:=Ip.set2 hv aj (.pointer p5.q) (.int .i64 p5.n);have hB2:=(hB.own hV 0 (.pointer p5.q)).own hV 1 (.int .i64 p5.n);have hM2:=(hM.other hv (by decide) 0 (.pointer p5.q)).other (hv.set0 (.pointer p5.q)) (by decide) 1 (.int .i64 p5.n);clear vc0 vc1 vz0 vz1;try simp only [aZ]
   refine dn ?_;clear hH;exact ⟨rfl,_,_,_,_,_,_,v,p5,by (try simp only [aZ]);rfl,hB2,hM2,hV,hv2,Io⟩
 rintro x' w' ⟨u59,u60,u61,u62,u63,u64,v,p5,rfl,hB,hM,hV,hv,ht⟩;try simp only [aZ]
 have nv1:¬v=a+1+1:=by have:=F3.out.r.lt;omega
 have nv2:¬a+1+1=v:=by have:=F3.out.r.lt;omega
 have F5:=hdz (F3.out.bt hB K3.out.mt);have K5:=hdz (K3.out.turn hM hB ax);have T5:=hdz (af (T3.out.1.kp (Kp.tree (Kp.bt hB K3.out.mt))) (T3.out.2.kp (Kp.tree (Kp.bt hB K3.out.mt))));have V5:=hdz (af hv (af ht hV));have v0:=hv.c0;have v1:=hv.c1;clear hB hM hV hv ht F3 K3 T3;go_wp2_with fail
 have HQ:=hdz HEQ.out
 have HLOW:=hdz (show ∀x∈aP la bs,(fu f g).rank≤x.rank from by
  rw [fA HQ.out];have h1:=List.pairwise_cons.1 HB1.out.1.rise;have h2:=List.pairwise_cons.1 HB1.out.2.rise;have h3:=(qC la bs (dU HB1.out.1).hok (dU HB1.out.2).hok (dU HB1.out.1).bin (dU HB1.out.2).bin h1.2 h2.2).2.2.2 (f.rank+1) (fun u hu=>h1.1 u hu) (fun u hu=>by have:=h2.1 u hu;have:=HQ.out;omega);exact h3)
 go_region_held3 (fun w'=>w'.cell? ⟨v,0,none⟩=some (.pointer p5.q)∧w'.cell? ⟨v,1,none⟩=some (.int .i64 p5.n)) (go_keep)
  (first|(go_at_call 143;((with_reducible refine (jy mo (c+(aI la bs:Nat)) (m+(aI la bs:Nat)) fa ga (some f) (some g) _ K5.out.drew.mt (by have:=HN.out;omega) (by have:=HN.out;have:=HZ.out;omega) (by have:=HN.out;omega) (by have:=HN.out;have:=HZ.out;omega) (T5.out.1.stay ((Below.refl _ _).drew)) (T5.out.2.stay ((Below.refl _ _).drew)) (by have:=HN.out;simp only [bF];omega) (by have:=HN.out;simp only [bF];omega)).mono ?_);rintro e w6 ⟨p6,rfl,Io,Iy,hb6⟩;have F6:=hdz ((F5.out.stay ((Below.refl _ _).drew)).bt hb6 K5.out.drew.mt);have K6:=hdz (K5.out.drew.turn Iy hb6 ax);have T6:=hdz (show gQ w6 p6 (some (fu f g)) from Io);have V6:=hdz (af ((V5.out.1.stay ((Below.refl _ _).drew)).bt hb6 K5.out.drew.mt (by decide)) ((V5.out.2.1.stay ((Below.refl _ _).drew)).bt hb6 K5.out.drew.mt));have v60:=V6.out.1.c0;have v61:=V6.out.1.c1;clear Io Iy hb6))|(go_at_call 116;((with_reducible refine (kM mo (c+(aI la bs:Nat)+(bZ (some f) (some g):Nat)) (m+(aI la bs:Nat)+(bZ (some f) (some g):Nat)) (fu f g) (aP la bs) p6 p5 _ (by rw [jJ];have:=HN.out;have:=HZ.out;omega) K6.out.mt (by have:=HN.out;omega) (by have:=HN.out;have:=HZ.out;simp only [bZ];omega) (by have:=HN.out;omega) (by have:=HN.out;have:=HZ.out;simp only [bZ];omega) V6.out.2 T6.out (jm (HB1.out.1.hok f (List.mem_cons_self ..)) (HB1.out.2.hok g (List.mem_cons_self ..))) (zx HQ.out (HB1.out.1.bin f (List.mem_cons_self ..)) (HB1.out.2.bin g (List.mem_cons_self ..))) HLOW.out).mono ?_);rintro e w7 ⟨p7,rfl,Ir,hm7,Iu⟩;have F7:=hdz (F6.out.bt Iu K6.out.mt);have K7:=hdz (K6.out.turn hm7 Iu ax);have L7:=hdz Ir;have V7:=hdz (V6.out.1.bt Iu K6.out.mt (by decide));have v70:=V7.out.c0;have v71:=V7.out.c1;have z0:=F7.out.r.z0;have z1:=F7.out.r.z1;have r0:=F7.out.r.c0;have r1:=F7.out.r.c1;clear Ir hm7 Iu)))
 go_wp2_with fail
 have s0:=(F7.out.r.set (.pointer p7.q) (.int .i64 p7.n)).c0;have s1:=(F7.out.r.set (.pointer p7.q) (.int .i64 p7.n)).c1;have k:=K7.out.eY F7.out.r aj (by decide) (by have:=HA.out;omega) (.pointer p7.q) (.int .i64 p7.n);have e1:c+((1+aI la bs+bg (aP la bs) (fu f g):Nat):Int)=c+(aI la bs:Nat)+(bZ (some f) (some g):Nat)+(bg (aP la bs) (fu f g):Nat):=by simp only [bZ];omega
 have e2:m+((1+aI la bs+bg (aP la bs) (fu f g):Nat):Int)=m+(aI la bs:Nat)+(bZ (some f) (some g):Nat)+(bg (aP la bs) (fu f g):Nat):=by simp only [bZ];omega
 exact bodyPost_ret (v:=hp p7) (by simp [results,Tryz.results357,go_sem,s0,s1]) rfl ⟨p7,rfl,by rw [HE.out.1];exact L7.out.set2 F7.out.r aj _ _,by rw [HE.out.2,e1,e2];exact k.mt,k.bt⟩
theorem bP (mo:Option Nat):∀la bs:List ai,bQ mo la bs:=by
 refine gW ?_ ?_ ?_ ?_ ?_
 ·exact fun b=>ja mo b
 ·exact fun f a=>ig mo f a
 ·exact fun f a g b h ih=>fw mo f g a b h ih
 ·exact fun f a g b h ih=>um mo f g a b h ih
 ·exact fun f a g b h ih=>uJ mo f g a b h ih
theorem eT (mo:Option Nat)(a b:Lh)(c m:Int)(p q:HP)(w:World)(hs:a.size+b.size<268435456)(hm:aW w mo c m)(h0:0≤c)(h1:c<576460752303423488)(h2:0≤m)(h3:m<576460752303423488)
  (ha:aA w a p) (hb:aA w b q):Calls Tryz.prog 357 #[hp p,aF mo,hp q] w (bU mo (c+aQ a b) (m+aQ a b) (bI a b) w) :=
 bP mo a.ts b.ts c m p q w hs hm h0 h1 h2 h3 ha hb
end Go.Proofs.YtmeodbjlmjpnbaaGreat.Bi.Hp
namespace Go.Proofs.YtmeodbjlmjpnbaaGreat.Bi.Hp
open Go.Sort Go.RowKit
theorem iO:∀a b:List ai,ah (a++b)=ah a+ah b
 | [],b=>by simp [ah]
 | t::r,b=>by simp only [List.cons_append,ah,iO r b];omega
theorem gu (l:List ai)(i:Nat):ah (l.drop i)≤ah l:=by
 conv=>rhs;rw [←List.take_append_drop i l]
 rw [iO];omega
theorem jw {us ts:List ai}(h:rX ts)(hs:us.Sublist ts):rX us:=⟨fun u hu=>h.hok u (hs.subset hu),fun u hu=>h.bin u (hs.subset hu),h.rise.sublist hs⟩
section
variable {w:World}{ts us:List ai}{p q:HP}
theorem jT (h:aA w ⟨ts⟩ p)(k:Nat)(hk:k<2147483648):Calls Tryz.prog 147 #[hp p,.int .i64 (k:Int)] w fun e w' => ∃p':HP,e=.returned (.agg #[.pointer p'.q,.int .i64 p'.n])∧aA w' ⟨ts.drop k⟩ p'∧Below w.heap.size w w':=by
 have hs:=h.small;have hok:rX ts:=h.right;obtain ⟨ps,n,hn,hnl,hl,ht⟩:=h.list;obtain ⟨q0,pn⟩:=p;change pn=(n:Int) at hn;subst hn;refine (Lt.uV (k:Int) hl (by omega) (by omega)).mono fun e w' ⟨q',n',he,hl',hb⟩=>⟨⟨q',(n':Int)⟩,he,?_,hb⟩;rw [show (k:Int).toNat=k from rfl]at hl';exact aA.of hl' ((ht.drop k).kp (bO.below hb)) (Nat.lt_of_le_of_lt (gu ts k) hs) (jw hok (List.drop_sublist k ts))
theorem eZ (h:aA w ⟨ts⟩ p):Calls Tryz.prog 144 #[hp p] w fun e w' => ∃p':HP,e=.returned (.agg #[.pointer p'.q,.int .i64 p'.n])∧aA w' ⟨ts.tail⟩ p'∧Below w.heap.size w w':=by
 have hs:=h.small;have hok:rX ts:=h.right;obtain ⟨ps,n,hn,hnl,hl,ht⟩:=h.list;obtain ⟨q0,pn⟩:=p;change pn=(n:Int) at hn;subst hn;refine (Lt.oC hl).mono fun e w' ⟨q',n',he,hl',hb⟩=>⟨⟨q',(n':Int)⟩,he,?_,hb⟩;refine aA.of hl' (ht.tail.kp (bO.below hb)) ?_ (jw hok (List.tail_sublist ts));rw [←List.drop_one];exact Nat.lt_of_le_of_lt (gu ts 1) hs
theorem xu {A:Option Addr}{n c:Nat}{ps:List (Option Addr)}(hr:Row1 Lt.one w A ps)(ht:aS w ts ps)(hn:n=ts.length)(hs:ah ts<268435456)(hok:rX ts):Calls Tryz.prog 312 #[.slice A n c] w fun e w' => ∃p':HP,e=.returned (.agg #[.pointer p'.q,.int .i64 p'.n])∧aA w' ⟨ts⟩ p'∧Below w.heap.size w w':=by
 have hl:=bW ts;refine (Lt.Bg (hn.trans ht.length.symm) hr (by omega)).mono fun e w' ⟨q',n',he,hl',hb⟩=>⟨⟨q',(n':Int)⟩,he,?_,hb⟩;exact aA.of hl' (ht.kp (bO.below hb)) hs hok
theorem jB (h:aA w ⟨ts⟩ p)(h':aA w ⟨us⟩ q)(hs:ah (ts++us)<268435456)(hok:rX (ts++us)):Calls Tryz.prog 313 #[hp p,hp q] w fun e w' => ∃p':HP,e=.returned (.agg #[.pointer p'.q,.int .i64 p'.n])∧aA w' ⟨ts++us⟩ p'∧Below w.heap.size w w':=by
 have g1:=h.len;have g2:=h'.len;change ts.length<_ at g1;change us.length<_ at g2;obtain ⟨ps,n,hn,hnl,hl,ht⟩:=h.list;obtain ⟨ps',n',hn',hnl',hl',ht'⟩:=h'.list;obtain ⟨q0,pn⟩:=p;obtain ⟨q1,pn'⟩:=q;change pn=(n:Int) at hn;change pn'=(n':Int) at hn';change n=ts.length at hnl;change n'=us.length at hnl';subst hn;subst hn';refine (Lt.zC hl hl' (by omega)).mono fun e w' ⟨q',m',he,hl2,hb⟩=>⟨⟨q',(m':Int)⟩,he,?_,hb⟩;exact aA.of hl2 ((ht.append ht').kp (bO.below hb)) hs hok
end
structure fD (mo:Option Nat)(W:World)(ts:List ai)(A:Option Addr)(n c:Nat):Prop where
 ex:∃ps,Row1 Lt.one W A ps∧aS W ts ps
 len:n=ts.length
 cap:n≤c
 apart:∀b,mo=some b → ∀a,A=some a→a.block≠b
section
variable {mo:Option Nat}{cc m:Int}{W W':World}{ts:List ai}{A:Option Addr}{n c:Nat}
theorem fD.bt (h:fD mo W ts A n c)(hb:Bt mo W W')(hm:aW W mo cc m):fD mo W' ts A n c:=by
 obtain ⟨ps,hr,ht⟩:=h.ex;exact ⟨⟨ps,fun h0=>(hr h0).imp fun b hb1=>hb1.imp fun o ho=>⟨ho.1,fun j hj=>hb.cell (ho.2 j hj) (fun mb e=>h.apart mb e ⟨b,o,none⟩ ho.1)⟩,ht.bt hb hm⟩,h.len,h.cap,h.apart⟩
theorem fD.stay (h:fD mo W ts A n c)(hb:Below W.heap.size W W'):fD mo W' ts A n c:=by
 obtain ⟨ps,hr,ht⟩:=h.ex;exact ⟨⟨ps,hr.stay hb,ht.kp (bO.below hb)⟩,h.len,h.cap,h.apart⟩
theorem fD.set2 (h:fD mo W ts A n c){b:Nat}{t:TypeId}{x y:Value}(hne:∀a,A=some a→a.block≠b)(hx:aB W b t x y)(ht:¬au t)(u v:Value):fD mo ((W.setCell ⟨b,0,Option.none⟩ u).setCell ⟨b,1,Option.none⟩ v) ts A n c:=by
 obtain ⟨ps,hr,hts⟩:=h.ex;exact ⟨⟨ps,fun h0=>(hr h0).imp fun b' hb1=>hb1.imp fun o ho=>⟨ho.1,fun j hj=>gG (hne ⟨b',o,none⟩ ho.1) (ho.2 j hj) u v⟩,hts.set2 hx ht u v⟩,h.len,h.cap,h.apart⟩
theorem fD.at (h:fD mo W ts A n c){j:Nat}(hj:j<n):∃b o p,A=some ⟨b,o,none⟩∧W.cell? ⟨b,o+j,none⟩=some (.pointer p)∧gQ W p (some (ts[j]'(h.len▸hj))):=by
 obtain ⟨ps,hr,ht⟩:=h.ex;have hl:=ht.length;obtain ⟨p,hp,hta⟩:=ht.at (List.getElem?_eq_getElem (h.len▸hj));obtain ⟨b,o,rfl⟩:=jW hr (by have:=h.len;omega);exact ⟨b,o,p,rfl,jP hr hp,hta⟩
theorem fD.take (h:fD mo W ts A n c)(k:Nat):∃ps,Row1 Lt.one W A ps∧aS W (ts.take k) ps:=by
 obtain ⟨ps,hr,ht⟩:=h.ex;refine ⟨ps.take k,fun h0=>?_,ht.take k⟩;rw [List.length_take]at h0;obtain ⟨b,o,e,hc⟩:=hr (by omega);refine ⟨b,o,e,fun j hj=>?_⟩;rw [List.length_take]at hj;rw [List.getElem_take];exact hc j (by omega)
end
theorem pQ {mo:Option Nat}{cc m:Int}{ts:List ai}{p:HP}{w:World}(h:aA w ⟨ts⟩ p)(hm:aW w mo cc m):Calls Tryz.prog 223 #[hp p] w fun e w' => ∃(A:Option Addr) (n c:Nat),e=.returned (.slice A n c)∧fD mo w' ts A n c∧(∀a,A=some a→w.heap.size≤a.block)∧Below w.heap.size w w':=by
 obtain ⟨ps,n,hn,hnl,hl,ht⟩:=h.list;obtain ⟨q0,pn⟩:=p;change pn=(n:Int) at hn;subst hn;refine (Lt.qK hl).mono fun e w' ⟨A,c,he,hmi,hr,hc,hb⟩=>⟨A,n,c,he,⟨⟨ps,hr,ht.kp (bO.below hb)⟩,hnl,hc,fun b e a ea=>?_⟩,fun a ea=>by subst ea;exact Mine.block hmi a.block rfl,hb⟩;subst e;subst ea;have h1:=Mine.block hmi a.block rfl;have h2:=hm.lt;omega
theorem kI (l:List ai){i:Nat}(h:0<i):cK l i=if dH (bq l i) (bq l (cK l (i - 1)))=true then i else cK l (i - 1):=by
 obtain ⟨j,rfl⟩:∃j,i=j+1:=⟨i - 1,by omega⟩;rfl
theorem fK (mo:Option Nat)(c m:Int)(t:Lh)(p:HP)(w:World)(hm:aW w mo c m)(h0:0≤c)(h1:c<1152921504606846976)(h:aA w t p) :
  Calls Tryz.prog 362 #[hp p,aF mo] w fun e w'=>e=.returned (.int .i64 (ak t.ts:Nat))∧aW w' mo (c+t.bT) m∧Bt mo w w':=by
 obtain ⟨ts⟩:=t;have hlen:=h.len;change ts.length<_ at hlen;have hb1:Below w.heap.size w ((w.alloc (.cells #[.pointer p.q,.int .i64 p.n] 108)).alloc (.cells #[.int .i64 0,.int .i64 0] 29)):=((Below.refl _ w).alloc (Nat.le_refl _) _).alloc (by simp) _;have bE:=aB.new (w.alloc (.cells #[.pointer p.q,.int .i64 p.n] 108)) 29 (.int .i64 0) (.int .i64 0);simp only [World.size_alloc]at bE;have H:=hdz (af (h.stay hb1) (af (Bt.aV (mo:=mo) hb1) (af (hm.stay hb1) (af bE (af h0 (af h1 hlen))))));clear h hm hb1 bE h0 h1 hlen;go_enter Tryz.func362,Tryz.ntmps362
 go_wp2_with fail
 generalize (w.alloc (.cells #[.pointer p.q,.int .i64 p.n] 108)).alloc (.cells #[.int .i64 0,.int .i64 0] 29)=w1 at *;obtain ⟨b,hbe⟩:=aU (w.heap.size+1);rw [←hbe]at H ⊢;have HBE:=hdz (show w.heap.size≤b by omega);clear hbe;((with_reducible refine (pQ H.out.1 H.out.2.2.1).mono ?_);rintro e w2 ⟨A,n,ca,rfl,hr,hab,hb2⟩);have X:=hdz (af hr (af (H.out.2.1.trans (Bt.aV hb2)) (af (H.out.2.2.1.stay hb2) (H.out.2.2.2.1.stay hb2))));have hn:n=ts.length:=hr.len;have HN:=hdz hn;have HAB:=hdz (show ∀a,A=some a→a.block≠b from fun a ea=>by have h1:=hab a ea;have h2:=H.out.2.2.2.1.lt;omega);clear hr hb2 hn hab;go_wp2_with fail
 go_loopg [5,15] n (fun k s iv wr => ∃(i pl:Nat) (x:Int×Int),iv=.int .i64 (i:Int)∧s=.int .i64 (pl:Int)∧i+k=n∧aB wr b 29 (.int .i64 x.1) (.int .i64 x.2)∧(pl=cK ts (i - 1))∧(0<i→x=bq ts pl)∧Bt mo w wr∧fD mo wr ts A n ca∧aW wr mo (c+((i - 1:Nat):Int)) m)
 case atStart=>exact ⟨0,0,(0,0),rfl,rfl,by omega,X.out.2.2.2,rfl,fun h=>absurd h (by omega),X.out.2.1,X.out.1,by simpa using X.out.2.2.1⟩
 case round =>
  obtain ⟨i,pl,⟨x1,x2⟩,rfl,rfl,hi,hbx,hpl,hx,hbt,htr,hm⟩:=hrel;by_cases hlt:i<n
  ·obtain ⟨bA,oA,pa,rfl,hcell,hta⟩:=htr.at hlt;have g1:decide ((i:Int)<(n:Int))=true:=by simp;omega
   have g2:(i:Int)<(n:Int):=by omega
   have g3:(0:Int)≤(i:Int):=by omega
   have hil:i<ts.length:=by have:=HN.out;omega
   have hroot:bq ts i=(ts[i]).x:=by unfold bq;rw [List.getElem?_eq_getElem hil]
   generalize ts[i]=u at *;obtain ⟨⟨y1,y2⟩,ubs,uks⟩:=u;have hw2:IntKind.i64.wrap ((i:Int)+1)=((i+1:Nat):Int):=by have:=HN.out;have:=H.out.2.2.2.2.2.2;rw [IntKind.wrap_i64];omega
   have hw3:wrap64 ((i:Int)+1)=((i+1:Nat):Int):=by have:=HN.out;have:=H.out.2.2.2.2.2.2;unfold wrap64;omega
   have Y:=hdz (af hi (af hbx (af hpl (af hx (af hbt (af htr (af hm (af hta hroot))))))));clear hi hbx hpl hx hbt htr hm hta hil hroot;go_wp2_with fail
   ((with_reducible refine (Go.Proofs.YtmeodbjlmjpnbaaGreat.kU pa (some ⟨(y1,y2),ubs,uks⟩) _ Y.out.2.2.2.2.2.2.2.1).mono ?_);rintro e w3 ⟨rfl,hb3⟩);rw [show lG (some ⟨(y1,y2),ubs,uks⟩)=.tuple #[el (y1,y2),.bool true] from rfl];have Z:=hdz (af (Y.out.2.1.stay hb3) (af (Y.out.2.2.2.2.1.trans (Bt.aV hb3)) (af (Y.out.2.2.2.2.2.1.stay hb3) (Y.out.2.2.2.2.2.2.1.stay hb3))));clear hb3 hcell;have hA:=(Below.refl w3.heap.size w3).alloc (Nat.le_refl _) (.cells #[.int .i64 y1,.int .i64 y2] 29);have B4:=hdz (af (Z.out.1.stay hA) (af (Z.out.2.1.trans (Bt.aV hA)) (af (Z.out.2.2.1.stay hA) (af (Z.out.2.2.2.stay hA) (af (aB.new w3 29 (.int .i64 y1) (.int .i64 y2)) (Nat.lt_of_lt_of_le Z.out.1.lt (Nat.le_refl _)))))));have k0:=B4.out.1.c0;have k1:=B4.out.1.c1;clear hA;by_cases hi0:i=0
   ·have e0:((i:Int) == 0)=true:=by simp;omega
    have z0:=B4.out.1.z0;have z1:=B4.out.1.z1;have nz:¬w3.heap.size=b:=by have:=B4.out.2.2.2.2.2;omega
    have nz2:¬b=w3.heap.size:=by have:=B4.out.2.2.2.2.2;omega
    subst hi0;go_wp2_with fail
    go_region_held3 (fun w'=>w'.cell? ⟨w3.heap.size,0,none⟩=some (.int .i64 y1)∧w'.cell? ⟨w3.heap.size,1,none⟩=some (.int .i64 y2)) (go_keep)
     (fail)
    go_wp2_with fail
    go_roundg (n - 1)
    case measure=>have:=Y.out.1;omega
    case rel=>exact ⟨1,0,(y1,y2),rfl,rfl,by have:=Y.out.1;omega,(B4.out.1.set _ _).stay ((Below.refl _ _).drew),rfl,fun _=>Y.out.2.2.2.2.2.2.2.2.symm,((B4.out.2.1.own HBE.out 0 _).own HBE.out 1 _).drew,(B4.out.2.2.1.set2 HAB.out B4.out.1 iN _ _).stay ((Below.refl _ _).drew),((B4.out.2.2.2.1.other B4.out.1 (by decide) 0 _).other (B4.out.1.set0 _) (by decide) 1 _).drew⟩
   ·have e0:((i:Int) == 0)=false:=by simp;omega
    go_wp2_with fail
    ((with_reducible refine (lM mo (c+((i - 1:Nat):Int)) m (y1,y2) (x1,x2) _ B4.out.2.2.2.1 (by have:=H.out;omega) (by have:=H.out;have:=HN.out;omega)).mono ?_);rintro e w5 ⟨rfl,Im,hb5⟩);have B5:=hdz (af (B4.out.1.bt hb5 B4.out.2.2.2.1 (by decide)) (af (B4.out.2.1.trans hb5) (af (B4.out.2.2.1.bt hb5 B4.out.2.2.2.1) (af (show aW w5 mo (c+((i+1 - 1:Nat):Int)) m from by rw [show c+((i+1 - 1:Nat):Int)=c+((i - 1:Nat):Int)+1 by omega];exact Im) (B4.out.2.2.2.2.1.bt hb5 B4.out.2.2.2.1 (by decide))))));clear k0 k1 Im hb5
    cases hv:dH (y1,y2) (x1,x2) with
    | true =>
     have k0:=B5.out.2.2.2.2.c0;have k1:=B5.out.2.2.2.2.c1;have z0:=B5.out.1.z0;have z1:=B5.out.1.z1;have z2:=B5.out.1.c0;have z3:=B5.out.1.c1;have nz:¬w3.heap.size=b:=by have:=B4.out.2.2.2.2.2;omega
     have nz2:¬b=w3.heap.size:=by have:=B4.out.2.2.2.2.2;omega
     go_wp2_with fail
     go_region_held3 (fun w'=>w'.cell? ⟨w3.heap.size,0,none⟩=some (.int .i64 y1)∧w'.cell? ⟨w3.heap.size,1,none⟩=some (.int .i64 y2)) (go_keep)
      (fail)
     go_wp2_with fail
     go_roundg (n - 1 - i)
     case measure=>have:=Y.out.1;omega
     case rel=>exact ⟨i+1,i,(y1,y2),rfl,rfl,by have:=Y.out.1;omega,(B5.out.1.set _ _).stay ((Below.refl _ _).drew),by rw [show i+1 - 1=i from rfl,kI ts (Nat.pos_of_ne_zero hi0),Y.out.2.2.2.2.2.2.2.2,←Y.out.2.2.1,←Y.out.2.2.2.1 (Nat.pos_of_ne_zero hi0),hv];rfl,fun _=>Y.out.2.2.2.2.2.2.2.2.symm,((B5.out.2.1.own HBE.out 0 _).own HBE.out 1 _).drew,(B5.out.2.2.1.set2 HAB.out B5.out.1 iN _ _).stay ((Below.refl _ _).drew),((B5.out.2.2.2.1.other B5.out.1 (by decide) 0 _).other (B5.out.1.set0 _) (by decide) 1 _).drew⟩
    | false =>
     go_wp2_with fail
     go_roundg (n - 1 - i)
     case measure=>have:=Y.out.1;omega
     case rel=>exact ⟨i+1,pl,(x1,x2),rfl,rfl,by have:=Y.out.1;omega,B5.out.1,by rw [show i+1 - 1=i from rfl,kI ts (Nat.pos_of_ne_zero hi0),Y.out.2.2.2.2.2.2.2.2,←Y.out.2.2.1,←Y.out.2.2.2.1 (Nat.pos_of_ne_zero hi0),hv];rfl,fun _=>Y.out.2.2.2.1 (Nat.pos_of_ne_zero hi0),B5.out.2.1,B5.out.2.2.1,B5.out.2.2.2.1⟩
  ·have hin:i=n:=by omega
   have g1:decide ((i:Int)<(n:Int))=false:=by simp;omega
   have g2:¬(i:Int)<(n:Int):=by omega
   have hfin:pl=ak ts:=by rw [hpl];unfold ak;rw [hin,HN.out]
   have hct:((i - 1:Nat):Int)=((Lh.mk ts).bT:Nat):=by show _=((ts.length - 1:Nat):Int);rw [hin,HN.out]
   have Y:=hdz (af hbt (show aW wr mo (c+(Lh.mk ts).bT) m from hct▸hm));clear hi hbx hpl hx hbt htr hm;go_wp2_with fail
   go_ret
   exact ⟨by first|rfl|rw [hfin],Y.out.2,Y.out.1⟩
end Go.Proofs.YtmeodbjlmjpnbaaGreat.Bi.Hp
namespace Go.Proofs.YtmeodbjlmjpnbaaGreat.Bi.Hp
open Go.Sort Go.RowKit
structure Fi (W:World)(a:Nat)(p:HP)(x:Int×Int):Prop where
 h:aB W a 108 (.pointer p.q) (.int .i64 p.n)
 e:aB W (a+1) 29 (.int .i64 x.1) (.int .i64 x.2)
 r:aB W (a+2) 108 (.pointer none) (.int .i64 0)
section
variable {W W':World}{a:Nat}{p:HP}{x:Int×Int}{mo:Option Nat}{c m:Int}
theorem Fi.new (w:World)(p:HP)(x:Int×Int):Fi (((w.alloc (.cells #[.pointer p.q,.int .i64 p.n] 108)).alloc (.cells #[.int .i64 x.1,.int .i64 x.2] 29)).alloc (.cells #[.pointer none,.int .i64 0] 108)) w.heap.size p x:=by
 refine ⟨((aB.new w 108 _ _).alloc _).alloc _,?_,?_⟩
 ·have:=(aB.new (w.alloc (.cells #[.pointer p.q,.int .i64 p.n] 108)) 29 (.int .i64 x.1) (.int .i64 x.2)).alloc (.cells #[.pointer none,.int .i64 0] 108);simpa only [World.size_alloc] using this
 ·have:=aB.new ((w.alloc (.cells #[.pointer p.q,.int .i64 p.n] 108)).alloc (.cells #[.int .i64 x.1,.int .i64 x.2] 29)) 108 (.pointer none) (.int .i64 0);simpa only [World.size_alloc] using this
theorem Fi.stay (h:Fi W a p x)(hb:Below W.heap.size W W'):Fi W' a p x:=⟨h.h.stay hb,h.e.stay hb,h.r.stay hb⟩
theorem Fi.bt (h:Fi W a p x)(hb:Bt mo W W')(hm:aW W mo c m):Fi W' a p x:=⟨h.h.bt hb hm (by decide),h.e.bt hb hm (by decide),h.r.bt hb hm (by decide)⟩
end
theorem di (mo:Option Nat)(c m:Int)(h:Lh)(x:Int×Int)(p:HP)(w:World)(hs:h.size<134217728)(hm:aW w mo c m)(h0:0≤c)(h1:c<576460752303423488)(h2:0≤m)(h3:m<576460752303423487)
  (hh:aA w h p):Calls Tryz.prog 91 #[hp p,aF mo,el x] w (bU mo (c+aQ (.one x) h) (m+1+aQ (.one x) h) (h.insert x) w):=by
 obtain ⟨x1,x2⟩:=x;have HF:=hdz (Fi.new w p (x1,x2));have KK:=hdz ((dL.refl (N:=au) hm).stay (aY w (.cells #[.pointer p.q,.int .i64 p.n] 108) (.cells #[.int .i64 x1,.int .i64 x2] 29) (.cells #[.pointer none,.int .i64 0] 108)));have HN:=hdz (show h.size<134217728∧0≤c∧c<576460752303423488∧0≤m∧m<576460752303423487 from ⟨hs,h0,h1,h2,h3⟩);have HH:=hdz hh;have HI:=hdz (show h.insert (x1,x2)=⟨dx h.ts (bY (x1,x2))⟩∧aQ (.one (x1,x2)) h=bg h.ts (bY (x1,x2)) from ⟨congrArg Lh.mk (yH h (x1,x2)),FR h (x1,x2)⟩);clear hh hs h0 h1 h2 h3 hm;go_enter Tryz.func91,Tryz.ntmps91
 go_wp2_with fail
 generalize ((w.alloc (.cells #[.pointer p.q,.int .i64 p.n] 108)).alloc (.cells #[.int .i64 x1,.int .i64 x2] 29)).alloc (.cells #[.pointer none,.int .i64 0] 108)=w1 at *;obtain ⟨a,ha⟩:=aU (w.heap.size);rw [←ha]at HF ⊢;have HA:=hdz ha;clear ha;have f0:=HF.out.h.c0;have f1:=HF.out.h.c1;have f2:=HF.out.e.c0;have f3:=HF.out.e.c1;have n1:¬a=a+1+1:=by omega
 have n2:¬a+1+1=a:=by omega
 have n3:¬a+1=a+1+1:=by omega
 have n4:¬a+1+1=a+1:=by omega
 go_region_held3 (fun w'=>w'.cell? ⟨a,0,none⟩=some (.pointer p.q)∧w'.cell? ⟨a,1,none⟩=some (.int .i64 p.n)∧w'.cell? ⟨a+1,0,none⟩=some (.int .i64 x1)∧w'.cell? ⟨a+1,1,none⟩=some (.int .i64 x2)) (go_keep)
  (first|(go_at_call 116;((with_reducible refine (kM mo c (m+1) (bY (x1,x2)) h.ts p5 p _ (by have:=HN.out;have h9:ah h.ts=h.size:=rfl;rw [jI];omega) K5.out.mt (by have:=HN.out;omega) (by have:=HN.out;omega) (by have:=HN.out;omega) (by have:=HN.out;omega) (HH.out.fQ K5.out.kp K5.out.bt.size) T5.out (oN (x1,x2)) (wL (x1,x2)) (fun _ _=>Nat.zero_le _)).mono ?_);rintro e w6 ⟨p6,rfl,Io,Iy,hb6⟩;have F6:=hdz (F5.out.bt hb6 K5.out.mt);have K6:=hdz (K5.out.turn Iy hb6 ax);have T6:=hdz Io;have k0:=F6.out.h.c0;have k1:=F6.out.h.c1;have k2:=F6.out.e.c0;have k3:=F6.out.e.c1;have r6:=F6.out.r.c0;have r7:=F6.out.r.c1;have z6:=F6.out.r.z0;have z7:=F6.out.r.z1;clear Io Iy hb6))|(go_at_call 117;((with_reducible refine (j5 mo c m (x1,x2) _ KK.out.drew.mt (by have:=HN.out;omega) (by have:=HN.out;omega)).mono ?_);rintro e w5 ⟨p5,rfl,Ip,Im,hb5⟩;have F5:=hdz ((HF.out.stay ((Below.refl _ _).drew)).bt hb5 KK.out.drew.mt);have K5:=hdz (KK.out.drew.turn Im hb5 ax);have T5:=hdz Ip;have g0:=F5.out.h.c0;have g1:=F5.out.h.c1;have g2:=F5.out.e.c0;have g3:=F5.out.e.c1;clear Ip Im hb5)))
 go_wp2_with fail
 have s0:=(F6.out.r.set (.pointer p6.q) (.int .i64 p6.n)).c0;have s1:=(F6.out.r.set (.pointer p6.q) (.int .i64 p6.n)).c1;have hk:=K6.out.eY F6.out.r aj (by decide) (by have:=HA.out;omega) (.pointer p6.q) (.int .i64 p6.n);exact bodyPost_ret (v:=hp p6) (by simp [results,Tryz.results91,go_sem,s0,s1]) rfl ⟨p6,rfl,by rw [HI.out.1];exact T6.out.set2 F6.out.r aj _ _,by rw [HI.out.2];exact hk.mt,hk.bt⟩
def fH (t:Lh):Value := .tuple #[el t.min.1,.bool t.min.2]
theorem jC {t:ai}{r:List ai}:∃u us,(t::r).drop (ak (t::r))=u::us∧u.x=bq (t::r) (ak (t::r))∧aO (t::r) (ak (t::r))=u.ks.list.reverse∧(t::r).drop (ak (t::r)+1)=us∧u∈t::r:=by
 have hl:=dz (l:=t::r) (by simp);have hg:(t::r)[ak (t::r)]?=some (t::r)[ak (t::r)]:=List.getElem?_eq_getElem hl;refine ⟨(t::r)[ak (t::r)],(t::r).drop (ak (t::r)+1),List.drop_eq_getElem_cons hl,?_,?_,rfl,List.getElem_mem hl⟩
 ·unfold bq;rw [hg]
 ·unfold aO;rw [hg]
theorem gy (l:List ai):ah l.reverse=ah l:=by
 induction l with
 | nil=>rfl
 | cons t r ih=>rw [List.reverse_cons,iO,ih];simp [ah];omega
theorem gJ:∀ks:ay,ah ks.list=ks.size
 | .nil=>rfl
 | .cons x bs ks r=>by simp only [ay.list,ah,ay.size,gJ r,ai.size]
theorem oh {l:List ai}{t:ai}(ht:t∈l):t.size≤ah l:=rH ht
theorem pR {l:List ai}{i:Nat}(h:i<l.length):ah (aK l i)≤ah l:=by
 have h1:=(eH h).length_eq;rw [aG,List.length_append,aG]at h1;omega
theorem o6 {l:List ai}{i:Nat}(h:i<l.length):ah (aO l i)+ah (aK l i)<ah l:=by
 have h1:=(eH h).length_eq;have hg:l[i]?=some l[i]:=List.getElem?_eq_getElem h;have hk:aO l i=(l[i]).ks.list.reverse:=by unfold aO;rw [hg]
 rw [aG,List.length_append,aG,ai.aD]at h1;rw [hk,gy,gJ];have h9:(l[i]).size=1+(l[i]).bs.length+(l[i]).ks.size:=rfl;omega
theorem gY {l:List ai}(h:rX l)(i:Nat):rX (aK l i):=⟨fun u hu=>h.hok u (dY hu),fun u hu=>h.bin u (dY hu),lY h.rise⟩
theorem uE {u:ai}(h1:u.hok)(h2:u.bin):rX u.ks.list.reverse:=⟨fun v hv=>ay.lK h1.2 v (by simpa using hv),fun v hv=>(ay.uG h2.2 v (by simpa using hv)).1,ay.uO h2.2⟩
theorem qO (mo:Option Nat)(c m:Int)(p:HP)(w:World)(hm:aW w mo c m)(h0:0≤c)(h1:c<1152921504606846976)(h:aA w .nil p):Calls Tryz.prog 358 #[hp p,aF mo] w fun e w'=>e=.returned (fH .nil)∧aW w' mo (c+Lh.nil.bT) m∧Bt mo w w':=by
 have hb1:Below w.heap.size w ((w.alloc (.cells #[.pointer p.q,.int .i64 p.n] 108)).alloc (.cells #[.int .i64 0,.int .i64 0] 29)):=((Below.refl _ w).alloc (Nat.le_refl _) _).alloc (by simp) _;have bH:=(aB.new w 108 (.pointer p.q) (.int .i64 p.n)).alloc (.cells #[.int .i64 0,.int .i64 0] 29);have bE:=aB.new (w.alloc (.cells #[.pointer p.q,.int .i64 p.n] 108)) 29 (.int .i64 0) (.int .i64 0);simp only [World.size_alloc]at bE;have HL:=hdz (show aA _ ⟨[]⟩ p from h.stay hb1);have KK:=hdz ((dL.refl (N:=au) hm).stay hb1);have HB:=hdz (af bH bE);have HN:=hdz (af h0 h1);obtain ⟨k,hk⟩:=aU (ak ([]));have HK:=hdz (show k=ak ([]:List ai)∧k<2147483648∧([]:List ai).drop k=[] from ⟨hk,by rw [hk];decide,by simp⟩);clear h hm hb1 bH bE h0 h1 hk;go_enter Tryz.func358,Tryz.ntmps358
 go_wp2_with fail
 generalize (w.alloc (.cells #[.pointer p.q,.int .i64 p.n] 108)).alloc (.cells #[.int .i64 0,.int .i64 0] 29)=w1 at *;obtain ⟨a,ha⟩:=aU (w.heap.size);rw [←ha]at HB ⊢;have HA:=hdz (Nat.le_of_eq ha.symm);clear ha;have f0:=HB.out.1.c0;have f1:=HB.out.1.c1;have hfd:=jq
 go_region_held3 (fun w'=>w'.cell? ⟨a,0,none⟩=some (.pointer p.q)∧w'.cell? ⟨a,1,none⟩=some (.int .i64 p.n)) (go_keep)
  (first|(go_at_call 141;((with_reducible refine (eB L3.out).mono ?_);rintro e w4 ⟨rfl,hb4⟩;have K4:=hdz (K3.out.stay hb4);have B4:=hdz (af (B3.out.1.stay hb4) (B3.out.2.stay hb4));have f40:=B4.out.1.c0;have f41:=B4.out.1.c1;clear hb4))|(go_at_call 147;((with_reducible refine (jT L2.out k HK.out.2.1).mono ?_);rintro e w3 ⟨p3,rfl,ht3,hb3⟩;have K3:=hdz (K2.out.stay hb3);have L3:=hdz (show aA w3 ⟨[]⟩ p3 from HK.out.2.2▸ht3);have B3:=hdz (af (B2.out.1.stay hb3) (B2.out.2.stay hb3));have f30:=B3.out.1.c0;have f31:=B3.out.1.c1;clear ht3 hb3))|(go_at_call 362;((with_reducible refine (fK mo c m ⟨[]⟩ p _ KK.out.drew.mt HN.out.1 HN.out.2 (HL.out.stay ((Below.refl _ _).drew))).mono ?_);rintro e w2 ⟨rfl,hm2,hb2⟩;rw [show ak (Lh.mk ([])).ts=k from HK.out.1.symm];have K2:=hdz (KK.out.drew.turn hm2 hb2 ax);have L2:=hdz ((HL.out.stay ((Below.refl _ _).drew)).bt hb2 KK.out.drew.mt);have B2:=hdz (af ((HB.out.1.stay ((Below.refl _ _).drew)).bt hb2 KK.out.drew.mt (by decide)) ((HB.out.2.stay ((Below.refl _ _).drew)).bt hb2 KK.out.drew.mt (by decide)));have f20:=B2.out.1.c0;have f21:=B2.out.1.c1;clear hm2 hb2)))
 have z0:=B4.out.2.z0;have z1:=B4.out.2.z1;have y0:=B4.out.2.c0;have y1:=B4.out.2.c1;have s0:=(B4.out.2.set (.int .i64 0) (.int .i64 0)).c0;have s1:=(B4.out.2.set (.int .i64 0) (.int .i64 0)).c1;go_wp2_with fail
 have hk:=K4.out.eY B4.out.2 iN (by decide) (by have:=HA.out;omega) (.int .i64 0) (.int .i64 0);exact bodyPost_ret (v:=fH .nil) (by simp [results,Tryz.results358,go_sem,s0,s1,fH,Lh.min,Lh.nil,qY]) rfl ⟨rfl,hk.mt,hk.bt⟩
theorem lJ (mo:Option Nat)(c m:Int)(t:ai)(r:List ai)(p:HP)(w:World)(hm:aW w mo c m)(h0:0≤c)(h1:c<1152921504606846976)(h:aA w ⟨t::r⟩ p):Calls Tryz.prog 358 #[hp p,aF mo] w fun e w'=>e=.returned (fH ⟨t::r⟩)∧aW w' mo (c+(Lh.mk (t::r)).bT) m∧Bt mo w w':=by
 have hb1:Below w.heap.size w ((w.alloc (.cells #[.pointer p.q,.int .i64 p.n] 108)).alloc (.cells #[.int .i64 0,.int .i64 0] 29)):=((Below.refl _ w).alloc (Nat.le_refl _) _).alloc (by simp) _;have bH:=(aB.new w 108 (.pointer p.q) (.int .i64 p.n)).alloc (.cells #[.int .i64 0,.int .i64 0] 29);have bE:=aB.new (w.alloc (.cells #[.pointer p.q,.int .i64 p.n] 108)) 29 (.int .i64 0) (.int .i64 0);simp only [World.size_alloc]at bE;have HL:=hdz (show aA _ ⟨t::r⟩ p from h.stay hb1);have KK:=hdz ((dL.refl (N:=au) hm).stay hb1);have HB:=hdz (af bH bE);have HN:=hdz (af h0 h1);obtain ⟨k,hk⟩:∃k,k=ak (t::r):=⟨_,rfl⟩;obtain ⟨u,us,hu1,hu2, -, -, -⟩:=jC (t:=t) (r:=r);have hlen:=h.len;have hlt:=dz (l:=t::r) (by simp);change (t::r).length<_ at hlen;have HK:=hdz (show k=ak (t::r)∧k<2147483648∧(t::r).drop k=u::us∧fH ⟨t::r⟩=.tuple #[el u.x,.bool true] from ⟨hk,by omega,by rw [hk];exact hu1,by rw [hu2];rfl⟩);clear hu1 hu2 hlen hlt;clear h hm hb1 bH bE h0 h1 hk;go_enter Tryz.func358,Tryz.ntmps358
 go_wp2_with fail
 generalize (w.alloc (.cells #[.pointer p.q,.int .i64 p.n] 108)).alloc (.cells #[.int .i64 0,.int .i64 0] 29)=w1 at *;obtain ⟨a,ha⟩:=aU (w.heap.size);rw [←ha]at HB ⊢;have HA:=hdz (Nat.le_of_eq ha.symm);clear ha;have f0:=HB.out.1.c0;have f1:=HB.out.1.c1;have hfd:=jq
 go_region_held3 (fun w'=>w'.cell? ⟨a,0,none⟩=some (.pointer p.q)∧w'.cell? ⟨a,1,none⟩=some (.int .i64 p.n)) (go_keep)
  (first|(go_at_call 141;(obtain ⟨fa,hfa,hc⟩:=bN L3.out);((with_reducible refine hc.mono ?_);rintro e w4 ⟨rfl,hb4⟩;have K4:=hdz (K3.out.stay hb4);have T4:=hdz (hfa.stay hb4);have B4:=hdz (af (B3.out.1.stay hb4) (B3.out.2.stay hb4));have f40:=B4.out.1.c0;have f41:=B4.out.1.c1;clear hb4 hfa hc))|(go_at_call 147;((with_reducible refine (jT L2.out k HK.out.2.1).mono ?_);rintro e w3 ⟨p3,rfl,ht3,hb3⟩;have K3:=hdz (K2.out.stay hb3);have L3:=hdz (show aA w3 ⟨u::us⟩ p3 from HK.out.2.2.1▸ht3);have B3:=hdz (af (B2.out.1.stay hb3) (B2.out.2.stay hb3));have f30:=B3.out.1.c0;have f31:=B3.out.1.c1;clear ht3 hb3))|(go_at_call 362;((with_reducible refine (fK mo c m ⟨t::r⟩ p _ KK.out.drew.mt HN.out.1 HN.out.2 (HL.out.stay ((Below.refl _ _).drew))).mono ?_);rintro e w2 ⟨rfl,hm2,hb2⟩;rw [show ak (Lh.mk (t::r)).ts=k from HK.out.1.symm];have K2:=hdz (KK.out.drew.turn hm2 hb2 ax);have L2:=hdz ((HL.out.stay ((Below.refl _ _).drew)).bt hb2 KK.out.drew.mt);have B2:=hdz (af ((HB.out.1.stay ((Below.refl _ _).drew)).bt hb2 KK.out.drew.mt (by decide)) ((HB.out.2.stay ((Below.refl _ _).drew)).bt hb2 KK.out.drew.mt (by decide)));have f20:=B2.out.1.c0;have f21:=B2.out.1.c1;clear hm2 hb2)))
 go_wp2_with fail
 ((with_reducible refine (kU fa (some u) _ T4.out).mono ?_);rintro e w5 ⟨rfl,hb5⟩);obtain ⟨⟨y1,y2⟩,ubs,uks⟩:=u;rw [show lG (some ⟨(y1,y2),ubs,uks⟩)=.tuple #[el (y1,y2),.bool true] from rfl];have B5:=hdz (B4.out.2.stay hb5);have K5:=hdz (K4.out.stay hb5);have z0:=B5.out.z0;have z1:=B5.out.z1;have r0:=B5.out.c0;have r1:=B5.out.c1;have s0:=(B5.out.set (.int .i64 y1) (.int .i64 y2)).c0;have s1:=(B5.out.set (.int .i64 y1) (.int .i64 y2)).c1;clear hb5;go_wp2_with fail
 have hk:=K5.out.eY B5.out iN (by decide) (by have:=HA.out;omega) (.int .i64 y1) (.int .i64 y2);exact bodyPost_ret (v := .tuple #[el (y1,y2),.bool true]) (by simp [results,Tryz.results358,go_sem,s0,s1]) rfl ⟨by rw [HK.out.2.2.2],hk.mt,hk.bt⟩
theorem iX (mo:Option Nat)(c m:Int)(t:Lh)(p:HP)(w:World)(hm:aW w mo c m)(h0:0≤c)(h1:c<1152921504606846976)(h:aA w t p):Calls Tryz.prog 358 #[hp p,aF mo] w fun e w'=>e=.returned (fH t)∧aW w' mo (c+t.bT) m∧Bt mo w w':=by
 obtain ⟨ts⟩:=t
 cases ts with
 | nil=>exact qO mo c m p w hm h0 h1 h
 | cons t r=>exact lJ mo c m t r p w hm h0 h1 h
def gP (mo:Option Nat)(c m:Int)(t:Lh)(is:Bool)(w:World)(e:Ending)(w':World):Prop:=∃p:HP,e=.returned (.tuple #[.agg #[.pointer p.q,.int .i64 p.n],.bool is])∧aA w' t p∧aW w' mo c m∧Bt mo w w'
theorem kV (mo:Option Nat)(c m:Int)(p:HP)(w:World)(hm:aW w mo c m)(h0:0≤c)(h1:c<288230376151711744)(h2:0≤m)(h3:m<576460752303423487)(h:aA w .nil p):Calls Tryz.prog 359 #[hp p,aF mo] w (gP mo c m .nil false w):=by
 have hb1:Below w.heap.size w ((w.alloc (.cells #[.pointer p.q,.int .i64 p.n] 108)).alloc (.cells #[.pointer none,.int .i64 0] 108)):=((Below.refl _ w).alloc (Nat.le_refl _) _).alloc (by simp) _;have bH:=(aB.new w 108 (.pointer p.q) (.int .i64 p.n)).alloc (.cells #[.pointer none,.int .i64 0] 108);have bE:=aB.new (w.alloc (.cells #[.pointer p.q,.int .i64 p.n] 108)) 108 (.pointer none) (.int .i64 0);simp only [World.size_alloc]at bE;have HL:=hdz (show aA _ ⟨[]⟩ p from h.stay hb1);have KK:=hdz ((dL.refl (N:=au) hm).stay hb1);have HB:=hdz (af bH bE);have HN:=hdz (af h0 (af h1 (af h2 h3)));obtain ⟨k,hk⟩:=aU (ak ([]));have HK:=hdz (show k=ak ([]:List ai)∧k<2147483648∧([]:List ai).drop k=[] from ⟨hk,by rw [hk];decide,by simp⟩);clear h hm hb1 bH bE h0 h1 h2 h3 hk;go_enter Tryz.func359,Tryz.ntmps359
 go_wp2_with fail
 generalize (w.alloc (.cells #[.pointer p.q,.int .i64 p.n] 108)).alloc (.cells #[.pointer none,.int .i64 0] 108)=w1 at *;obtain ⟨a,ha⟩:=aU (w.heap.size);rw [←ha]at HB ⊢;have HA:=hdz (Nat.le_of_eq ha.symm);clear ha;((with_reducible refine (fK mo c m ⟨[]⟩ p _ KK.out.mt HN.out.1 (by have:=HN.out;omega) HL.out).mono ?_);rintro e w2 ⟨rfl,hm2,hb2⟩);rw [show ak (Lh.mk ([])).ts=k from HK.out.1.symm];have K2:=hdz (KK.out.turn hm2 hb2 ax);have L2:=hdz (HL.out.bt hb2 KK.out.mt);have B2:=hdz (af (HB.out.1.bt hb2 KK.out.mt (by decide)) (HB.out.2.bt hb2 KK.out.mt (by decide)));have f0:=B2.out.1.c0;have f1:=B2.out.1.c1;clear hm2 hb2 HL KK HB;go_wp2_with fail
 ((with_reducible refine (jT L2.out k HK.out.2.1).mono ?_);rintro e w3 ⟨p3,rfl,ht3,hb3⟩);have hb4:Below w2.heap.size w2 (w3.alloc (.cells #[.pointer p3.q,.int .i64 p3.n] 106)):=hb3.alloc hb3.size (.cells #[.pointer p3.q,.int .i64 p3.n] 106);have bV:=aB.new w3 106 (.pointer p3.q) (.int .i64 p3.n);have L3:=hdz (show aA (w3.alloc (.cells #[.pointer p3.q,.int .i64 p3.n] 106)) ⟨[]⟩ p3 from aA.stay (show aA w3 ⟨[]⟩ p3 from HK.out.2.2▸ht3) (bG _));have L2b:=hdz (L2.out.stay hb4);have K3:=hdz (K2.out.stay hb4);have HVL:=hdz (Nat.lt_of_lt_of_le B2.out.2.lt hb3.size);have B3:=hdz (af (B2.out.1.stay hb4) (af (B2.out.2.stay hb4) bV));clear ht3 hb3 hb4 bV f0 f1 K2 L2 B2;go_wp2_with fail
 generalize w3.alloc (.cells #[.pointer p3.q,.int .i64 p3.n] 106)=w4 at *;obtain ⟨v,hv⟩:=aU (w3.heap.size);rw [←hv]at B3 HVL ⊢;clear hv;((with_reducible refine (eB L3.out).mono ?_);rintro e w5 ⟨rfl,hb5⟩);have K5:=hdz (K3.out.stay hb5);have B5:=hdz (B3.out.2.1.stay hb5);have z0:=B5.out.z0;have z1:=B5.out.z1;have r0:=B5.out.c0;have r1:=B5.out.c1;have s0:=(B5.out.set (.pointer none) (.int .i64 0)).c0;have s1:=(B5.out.set (.pointer none) (.int .i64 0)).c1;clear hb5;go_wp2_with fail
 have hk:=K5.out.eY B5.out aj (by decide) (by have:=HA.out;omega) (.pointer none) (.int .i64 0);exact bodyPost_ret (v := .tuple #[hp ⟨none,0⟩,.bool false]) (by simp [results,Tryz.results359,go_sem,s0,s1]) rfl ⟨⟨none,0⟩,rfl,aA.nil _,by simpa [Lh.bT,Lh.nil] using hk.mt,hk.bt⟩
theorem kX (mo:Option Nat)(c m:Int)(t:ai)(r:List ai)(p:HP)(w:World)(hm:aW w mo c m)(h0:0≤c)(h1:c<288230376151711744)(h2:0≤m)(h3:m<576460752303423487)(h:aA w ⟨t::r⟩ p):Calls Tryz.prog 359 #[hp p,aF mo] w (gP mo (c+((Lh.mk (t::r)).oK+(Lh.mk (t::r)).bT:Nat)) (m+(Lh.mk (t::r)).oK) (Lh.mk (t::r)).pop true w):=by
 have hb1:Below w.heap.size w ((w.alloc (.cells #[.pointer p.q,.int .i64 p.n] 108)).alloc (.cells #[.pointer none,.int .i64 0] 108)):=((Below.refl _ w).alloc (Nat.le_refl _) _).alloc (by simp) _;have bH:=(aB.new w 108 (.pointer p.q) (.int .i64 p.n)).alloc (.cells #[.pointer none,.int .i64 0] 108);have bE:=aB.new (w.alloc (.cells #[.pointer p.q,.int .i64 p.n] 108)) 108 (.pointer none) (.int .i64 0);simp only [World.size_alloc]at bE;have HL:=hdz (show aA _ ⟨t::r⟩ p from h.stay hb1);have KK:=hdz ((dL.refl (N:=au) hm).stay hb1);have HB:=hdz (af bH bE);have HN:=hdz (af h0 (af h1 (af h2 h3)));obtain ⟨k,hk⟩:∃k,k=ak (t::r):=⟨_,rfl⟩;obtain ⟨u,us,hu1,hu2,hu3,hu4,hu5⟩:=jC (t:=t) (r:=r);have hlen:=h.len;have hsm:=h.small;have hok:rX (t::r):=h.right;have hlt:=dz (l:=t::r) (by simp);have htl:(Lh.mk (t::r)).bT≤(Lh.mk (t::r)).size:=kz _;have hpl:(Lh.mk (t::r)).oK≤(Lh.mk (t::r)).size:=DL;change (t::r).length<_ at hlen;change ah (t::r)<_ at hsm;have hus:=oh hu5;have hrs:=pR hlt;have HK:=hdz (show k=ak (t::r)∧k<2147483648∧(t::r).drop k=u::us from ⟨hk,by omega,by rw [hk];exact hu1⟩);have HU:=hdz (show aO (t::r) k=u.ks.list.reverse∧(t::r).take k++us=aK (t::r) k∧k≤(t::r).length∧u.size≤ah (t::r)∧ah (aK (t::r) k)≤ah (t::r)∧(t::r).length<268435456∧ah (t::r)<268435456 from ⟨hk▸hu3,by unfold aK;rw [hk,hu4],by omega,hus,hk▸hrs,hlen,hsm⟩);have HPS:=hdz (show ah (aO (t::r) k)+ah (aK (t::r) k)<268435456 from by have h8:=o6 hlt;rw [←hk]at h8;omega);have HO:=hdz (af hok (af (hok.hok u hu5) (hok.bin u hu5)));have HPO:=hdz (show (Lh.mk (t::r)).pop=⟨aP (aO (t::r) k) (aK (t::r) k)⟩∧(Lh.mk (t::r)).oK=aI (aO (t::r) k) (aK (t::r) k)∧(Lh.mk (t::r)).bT<268435456∧(Lh.mk (t::r)).oK<268435456 from ⟨by rw [hk];rfl,by rw [hk];rfl,Nat.lt_of_le_of_lt htl hsm,Nat.lt_of_le_of_lt hpl hsm⟩);clear hu1 hu2 hu3 hu4 hu5 hlen hlt hsm hok htl hpl hus hrs;clear h hm hb1 bH bE h0 h1 h2 h3 hk;go_enter Tryz.func359,Tryz.ntmps359
 go_wp2_with fail
 generalize (w.alloc (.cells #[.pointer p.q,.int .i64 p.n] 108)).alloc (.cells #[.pointer none,.int .i64 0] 108)=w1 at *;obtain ⟨a,ha⟩:=aU (w.heap.size);rw [←ha]at HB ⊢;have HA:=hdz (Nat.le_of_eq ha.symm);clear ha;((with_reducible refine (fK mo c m ⟨t::r⟩ p _ KK.out.mt HN.out.1 (by have:=HN.out;omega) HL.out).mono ?_);rintro e w2 ⟨rfl,hm2,hb2⟩);rw [show ak (Lh.mk (t::r)).ts=k from HK.out.1.symm];have K2:=hdz (KK.out.turn hm2 hb2 ax);have L2:=hdz (HL.out.bt hb2 KK.out.mt);have B2:=hdz (af (HB.out.1.bt hb2 KK.out.mt (by decide)) (HB.out.2.bt hb2 KK.out.mt (by decide)));have f0:=B2.out.1.c0;have f1:=B2.out.1.c1;clear hm2 hb2 HL KK HB;go_wp2_with fail
 ((with_reducible refine (jT L2.out k HK.out.2.1).mono ?_);rintro e w3 ⟨p3,rfl,ht3,hb3⟩);have hb4:Below w2.heap.size w2 (w3.alloc (.cells #[.pointer p3.q,.int .i64 p3.n] 106)):=hb3.alloc hb3.size (.cells #[.pointer p3.q,.int .i64 p3.n] 106);have bV:=aB.new w3 106 (.pointer p3.q) (.int .i64 p3.n);have L3:=hdz (show aA (w3.alloc (.cells #[.pointer p3.q,.int .i64 p3.n] 106)) ⟨u::us⟩ p3 from aA.stay (show aA w3 ⟨u::us⟩ p3 from HK.out.2.2▸ht3) (bG _));have L2b:=hdz (L2.out.stay hb4);have K3:=hdz (K2.out.stay hb4);have HVL:=hdz (Nat.lt_of_lt_of_le B2.out.2.lt hb3.size);have B3:=hdz (af (B2.out.1.stay hb4) (af (B2.out.2.stay hb4) bV));clear ht3 hb3 hb4 bV f0 f1 K2 L2 B2;go_wp2_with fail
 generalize w3.alloc (.cells #[.pointer p3.q,.int .i64 p3.n] 106)=w4 at *;obtain ⟨v,hv⟩:=aU (w3.heap.size);rw [←hv]at B3 HVL ⊢;clear hv;obtain ⟨fa,hfa,hc⟩:=bN L3.out;have HC:=hdz hc;have TF:=hdz hfa;clear hc hfa;((with_reducible refine HC.out.mono ?_);rintro e w5 ⟨rfl,hb5⟩);have K5:=hdz (K3.out.stay hb5);have B5:=hdz (af (B3.out.1.stay hb5) (af (B3.out.2.1.stay hb5) (B3.out.2.2.stay hb5)));have L5:=hdz (af (show aA w5 ⟨t::r⟩ p from L2b.out.stay hb5) (af (L3.out.stay hb5) (TF.out.stay hb5)));clear hb5 HC TF K3 B3 L3 L2b;go_wp2_with fail
 refine j6 (R:=fun x x' w' => ∃(u27 u28 u29 u30 u31 u32 u33 u34 u35:Value) (g:Nat) (p9:HP),x'=((((((((((x.put (some 27) u27).put (some 28) u28).put (some 29) u29).put (some 30) u30).put (some 31) u31).put (some 32) u32).put (some 33) u33).put (some 34) u34).put (some 35) u35).put (some 10) (.pointer (some ⟨g,0,none⟩)))∧Below w5.heap.size w5 w'∧w5.heap.size≤g∧aB w' g 106 (.pointer p9.q) (.int .i64 p9.n)∧aA w' ⟨aK (t::r) k⟩ p9) ?_ ?_
 ·have HS:=hdz (fun (w':World) (hz:Below w5.heap.size w5 w')=>(show w'.cell? ⟨a,0,none⟩=some (.pointer p.q)∧w'.cell? ⟨a,1,none⟩=some (.int .i64 p.n)∧w'.cell? ⟨v,0,none⟩=some (.pointer p3.q)∧w'.cell? ⟨v,1,none⟩=some (.int .i64 p3.n) from ⟨(B5.out.1.stay hz).c0,(B5.out.1.stay hz).c1,(B5.out.2.2.stay hz).c0,(B5.out.2.2.stay hz).c1⟩));have hB:=(Below.refl w5.heap.size w5).drew;have IE:=L5.out.1.stay ((Below.refl _ _).drew);have Iq:=L5.out.2.1.stay ((Below.refl _ _).drew);have hSZ:=hB.size;refine wp_region_noPanic ?_;refine wp_region_held_drew (S:=fun w'=>w'.cell? ⟨a,0,none⟩=some (.pointer p.q)∧w'.cell? ⟨a,1,none⟩=some (.int .i64 p.n)∧w'.cell? ⟨v,0,none⟩=some (.pointer p3.q)∧w'.cell? ⟨v,1,none⟩=some (.int .i64 p3.n)) (by kernel_rfl) (HS.out _ hB) (fun hH=>?_);generalize hwd:w5.drew=wd at *;clear hwd;refine tk 0 hH ?_;try simp only [aZ]
  refine tk 1 hH ?_;try simp only [aZ]
  refine tk 3 hH ?_;try simp only [aZ]
  refine tk 6 hH ?_;try simp only [aZ]
  refine uw 2 9 (fun K hK=>?_) (fun K hK=>?_)
  ·go_simp;go_at_call 223
   have hmt:aW wd (none:Option Nat) 0 0:=trivial;(with_reducible refine (pQ IE hmt).mono ?_);rintro e w6 ⟨A,n6,c6,rfl,hr, -,hb⟩;replace Iq:=Iq.stay hb;replace hB:=hB.trans (hb.mono hSZ);replace hSZ:=Nat.le_trans hSZ hb.size;clear hb IE;have c1:k≤n6:=by have:=hr.len;have:=HU.out;omega
   have c2:k≤c6:=Nat.le_trans c1 hr.cap;have c3:(0:Int)≤(k:Int):=by omega
   have c4:(k:Int)≤(c6:Int):=by omega
   have c5:(k:Int)≤(n6:Int):=by omega
   refine hK.out _ _ ?_ (fun hH2=>?_)
   ·exact HS.out _ hB
   clear hK K hH;have hH:=hH2;clear hH2;try simp only [aZ]
   refine tk 4 hH ?_;try simp only [aZ]
   refine uw 5 9 (fun K hK=>?_) (fun K hK=>?_)
   ·go_simp;go_at_call 312
    obtain ⟨ps,hr1,hr2⟩:=hr.take k;(with_reducible refine (xu hr1 hr2 (by rw [List.length_take];have:=HU.out;omega) (Nat.lt_of_le_of_lt (cO _ _) HU.out.2.2.2.2.2.2) (jw HO.out.1 (List.take_sublist k _))).mono ?_);rintro e w7 ⟨p7,rfl,Ir,hb⟩;replace Iq:=Iq.stay hb;replace hB:=hB.trans (hb.mono hSZ);replace hSZ:=Nat.le_trans hSZ hb.size;clear hb hr hr1 hr2;refine hK.out _ _ ?_ (fun hH2=>?_)
    ·exact HS.out _ hB
    clear hK K hH;have hH:=hH2;clear hH2;try simp only [aZ]
    refine uw 7 9 (fun K hK=>?_) (fun K hK=>?_)
    ·go_simp;go_at_call 144
     (with_reducible refine (eZ Iq).mono ?_);rintro e w8 ⟨p8,rfl,Iw,hb⟩;replace Ir:=Ir.stay hb;replace Iw:aA w8 ⟨us⟩ p8:=Iw;replace hB:=hB.trans (hb.mono hSZ);replace hSZ:=Nat.le_trans hSZ hb.size;clear hb Iq;refine hK.out _ _ ?_ (fun hH2=>?_)
     ·exact HS.out _ hB
     clear hK K hH;have hH:=hH2;clear hH2;try simp only [aZ]
     refine uw 8 9 (fun K hK=>?_) (fun K hK=>?_)
     focus
      go_simp;go_at_call 313
      (with_reducible refine (jB Ir Iw (by rw [HU.out.2.1];have:=HU.out;omega) (by rw [HU.out.2.1];exact gY HO.out.1 k)).mono ?_);rintro e w9 ⟨p9,rfl,IA,hb⟩;rw [HU.out.2.1]at IA;replace hB:=hB.trans (hb.mono hSZ);replace hSZ:=Nat.le_trans hSZ hb.size;clear hb Ir Iw;refine hK.out _ _ ?_ (fun hH2=>?_)
      ·exact HS.out _ hB
      clear hK K hH;have hH:=hH2;clear hH2;try simp only [aZ]
      refine eD 9 (fun K hK=>?_);go_simp;refine hK.out _ _ ?_ (fun hH2=>?_)
      ·exact HS.out _ (hB.alloc hSZ _)
      clear hK K hH;have hH:=hH2;clear hH2;have hv:=aB.new w9 106 (.pointer none) (.int .i64 0);have hV:w5.heap.size≤w9.heap.size:=hSZ;replace IA:=IA.stay (bG (.cells #[.pointer none,.int .i64 0] 106));replace hB:=hB.alloc hSZ (.cells #[.pointer none,.int .i64 0] 106);replace hSZ:=Nat.le_trans hSZ (show w9.heap.size≤(w9.alloc (.cells #[.pointer none,.int .i64 0] 106)).heap.size by simp);obtain ⟨g,hge⟩:=aU (w9.heap.size);rw [←hge]at hv hV ⊢;clear hge;generalize w9.alloc (.cells #[.pointer none,.int .i64 0] 106)=wA at *
     rotate_left
     focus
      go_simp;refine hK.out _ _ ?_ (fun hH2=>?_)
      ·exact HS.out _ (hB.alloc hSZ _)
      clear hK K hH;have hH:=hH2;clear hH2;have hv:=aB.new w8 106 (.pointer none) (.int .i64 0);have hV:w5.heap.size≤w8.heap.size:=hSZ;replace Ir:=Ir.stay (bG (.cells #[.pointer none,.int .i64 0] 106));replace Iw:=Iw.stay (bG (.cells #[.pointer none,.int .i64 0] 106));replace hB:=hB.alloc hSZ (.cells #[.pointer none,.int .i64 0] 106);replace hSZ:=Nat.le_trans hSZ (show w8.heap.size≤(w8.alloc (.cells #[.pointer none,.int .i64 0] 106)).heap.size by simp);obtain ⟨g,hge⟩:=aU (w8.heap.size);rw [←hge]at hv hV ⊢;clear hge;generalize w8.alloc (.cells #[.pointer none,.int .i64 0] 106)=wA at *;try simp only [aZ]
      refine eD 8 (fun K hK=>?_);go_simp;go_at_call 313
      (with_reducible refine (jB Ir Iw (by rw [HU.out.2.1];have:=HU.out;omega) (by rw [HU.out.2.1];exact gY HO.out.1 k)).mono ?_);rintro e w9 ⟨p9,rfl,IA,hb⟩;rw [HU.out.2.1]at IA;replace hB:=hB.trans (hb.mono hSZ);replace hSZ:=Nat.le_trans hSZ hb.size;replace hv:=hv.stay hb;clear hb Ir Iw;refine hK.out _ _ ?_ (fun hH2=>?_)
      ·exact HS.out _ hB
      clear hK K hH;have hH:=hH2;clear hH2
     rotate_left
     all_goals
      try simp only [aZ]
      have vc0:=hv.c0;have vc1:=hv.c1;have vz0:=hv.z0;have vz1:=hv.z1;refine eD 10 (fun K hK=>?_);go_simp;refine hK.out _ _ ?_ (fun hH2=>?_)
      ·exact HS.out _ (aL hB hV _ _)
      clear hK K hH;have hH:=hH2;clear hH2;have hv2:=hv.set (.pointer p9.q) (.int .i64 p9.n);have Io:=IA.set2 hv dh (.pointer p9.q) (.int .i64 p9.n);have hB2:=aL hB hV (.pointer p9.q) (.int .i64 p9.n);clear vc0 vc1 vz0 vz1;try simp only [aZ]
      refine dn ?_;clear hH;exact ⟨rfl,_,_,_,_,_,_,_,_,_,g,p9,by (try simp only [aZ]);rfl,hB2,hV,hv2,Io⟩
    ·go_simp;refine hK.out _ _ ?_ (fun hH2=>?_)
     ·exact HS.out _ (hB.alloc hSZ _)
     clear hK K hH;have hH:=hH2;clear hH2;have hv:=aB.new w7 106 (.pointer none) (.int .i64 0);have hV:w5.heap.size≤w7.heap.size:=hSZ;replace Ir:=Ir.stay (bG (.cells #[.pointer none,.int .i64 0] 106));replace Iq:=Iq.stay (bG (.cells #[.pointer none,.int .i64 0] 106));replace hB:=hB.alloc hSZ (.cells #[.pointer none,.int .i64 0] 106);replace hSZ:=Nat.le_trans hSZ (show w7.heap.size≤(w7.alloc (.cells #[.pointer none,.int .i64 0] 106)).heap.size by simp);obtain ⟨g,hge⟩:=aU (w7.heap.size);rw [←hge]at hv hV ⊢;clear hge;generalize w7.alloc (.cells #[.pointer none,.int .i64 0] 106)=wA at *;try simp only [aZ]
     refine eD 7 (fun K hK=>?_);go_simp;go_at_call 144
     (with_reducible refine (eZ Iq).mono ?_);rintro e w8 ⟨p8,rfl,Iw,hb⟩;replace Ir:=Ir.stay hb;replace Iw:aA w8 ⟨us⟩ p8:=Iw;replace hB:=hB.trans (hb.mono hSZ);replace hSZ:=Nat.le_trans hSZ hb.size;replace hv:=hv.stay hb;clear hb Iq;refine hK.out _ _ ?_ (fun hH2=>?_)
     ·exact HS.out _ hB
     clear hK K hH;have hH:=hH2;clear hH2;try simp only [aZ]
     refine eD 8 (fun K hK=>?_);go_simp;go_at_call 313
     (with_reducible refine (jB Ir Iw (by rw [HU.out.2.1];have:=HU.out;omega) (by rw [HU.out.2.1];exact gY HO.out.1 k)).mono ?_);rintro e w9 ⟨p9,rfl,IA,hb⟩;rw [HU.out.2.1]at IA;replace hB:=hB.trans (hb.mono hSZ);replace hSZ:=Nat.le_trans hSZ hb.size;replace hv:=hv.stay hb;clear hb Ir Iw;refine hK.out _ _ ?_ (fun hH2=>?_)
     ·exact HS.out _ hB
     clear hK K hH;have hH:=hH2;clear hH2;try simp only [aZ]
     have vc0:=hv.c0;have vc1:=hv.c1;have vz0:=hv.z0;have vz1:=hv.z1;refine eD 10 (fun K hK=>?_);go_simp;refine hK.out _ _ ?_ (fun hH2=>?_)
     ·exact HS.out _ (aL hB hV _ _)
     clear hK K hH;have hH:=hH2;clear hH2;have hv2:=hv.set (.pointer p9.q) (.int .i64 p9.n);have Io:=IA.set2 hv dh (.pointer p9.q) (.int .i64 p9.n);have hB2:=aL hB hV (.pointer p9.q) (.int .i64 p9.n);clear vc0 vc1 vz0 vz1;try simp only [aZ]
     refine dn ?_;clear hH;exact ⟨rfl,_,_,_,_,_,_,_,_,_,g,p9,by (try simp only [aZ]);rfl,hB2,hV,hv2,Io⟩
   ·go_simp;refine hK.out _ _ ?_ (fun hH2=>?_)
    ·exact HS.out _ (hB.alloc hSZ _)
    clear hK K hH;have hH:=hH2;clear hH2;have hv:=aB.new w6 106 (.pointer none) (.int .i64 0);have hV:w5.heap.size≤w6.heap.size:=hSZ;replace hr:=hr.stay (bG (.cells #[.pointer none,.int .i64 0] 106));replace Iq:=Iq.stay (bG (.cells #[.pointer none,.int .i64 0] 106));replace hB:=hB.alloc hSZ (.cells #[.pointer none,.int .i64 0] 106);replace hSZ:=Nat.le_trans hSZ (show w6.heap.size≤(w6.alloc (.cells #[.pointer none,.int .i64 0] 106)).heap.size by simp);obtain ⟨g,hge⟩:=aU (w6.heap.size);rw [←hge]at hv hV ⊢;clear hge;generalize w6.alloc (.cells #[.pointer none,.int .i64 0] 106)=wA at *;try simp only [aZ]
    refine eD 5 (fun K hK=>?_);go_simp;go_at_call 312
    obtain ⟨ps,hr1,hr2⟩:=hr.take k;(with_reducible refine (xu hr1 hr2 (by rw [List.length_take];have:=HU.out;omega) (Nat.lt_of_le_of_lt (cO _ _) HU.out.2.2.2.2.2.2) (jw HO.out.1 (List.take_sublist k _))).mono ?_);rintro e w7 ⟨p7,rfl,Ir,hb⟩;replace Iq:=Iq.stay hb;replace hB:=hB.trans (hb.mono hSZ);replace hSZ:=Nat.le_trans hSZ hb.size;replace hv:=hv.stay hb;clear hb hr hr1 hr2;refine hK.out _ _ ?_ (fun hH2=>?_)
    ·exact HS.out _ hB
    clear hK K hH;have hH:=hH2;clear hH2;try simp only [aZ]
    refine eD 7 (fun K hK=>?_);go_simp;go_at_call 144
    (with_reducible refine (eZ Iq).mono ?_);rintro e w8 ⟨p8,rfl,Iw,hb⟩;replace Ir:=Ir.stay hb;replace Iw:aA w8 ⟨us⟩ p8:=Iw;replace hB:=hB.trans (hb.mono hSZ);replace hSZ:=Nat.le_trans hSZ hb.size;replace hv:=hv.stay hb;clear hb Iq;refine hK.out _ _ ?_ (fun hH2=>?_)
    ·exact HS.out _ hB
    clear hK K hH;have hH:=hH2;clear hH2;try simp only [aZ]
    refine eD 8 (fun K hK=>?_);go_simp;go_at_call 313
    (with_reducible refine (jB Ir Iw (by rw [HU.out.2.1];have:=HU.out;omega) (by rw [HU.out.2.1];exact gY HO.out.1 k)).mono ?_);rintro e w9 ⟨p9,rfl,IA,hb⟩;rw [HU.out.2.1]at IA;replace hB:=hB.trans (hb.mono hSZ);replace hSZ:=Nat.le_trans hSZ hb.size;replace hv:=hv.stay hb;clear hb Ir Iw;refine hK.out _ _ ?_ (fun hH2=>?_)
    ·exact HS.out _ hB
    clear hK K hH;have hH:=hH2;clear hH2;try simp only [aZ]
    have vc0:=hv.c0;have vc1:=hv.c1;have vz0:=hv.z0;have vz1:=hv.z1;refine eD 10 (fun K hK=>?_);go_simp;refine hK.out _ _ ?_ (fun hH2=>?_)
    ·exact HS.out _ (aL hB hV _ _)
    clear hK K hH;have hH:=hH2;clear hH2;have hv2:=hv.set (.pointer p9.q) (.int .i64 p9.n);have Io:=IA.set2 hv dh (.pointer p9.q) (.int .i64 p9.n);have hB2:=aL hB hV (.pointer p9.q) (.int .i64 p9.n);clear vc0 vc1 vz0 vz1;try simp only [aZ]
    refine dn ?_;clear hH;exact ⟨rfl,_,_,_,_,_,_,_,_,_,g,p9,by (try simp only [aZ]);rfl,hB2,hV,hv2,Io⟩
  ·go_simp;refine hK.out _ _ ?_ (fun hH2=>?_)
   ·exact HS.out _ (hB.alloc hSZ _)
   clear hK K hH;have hH:=hH2;clear hH2;have hv:=aB.new wd 106 (.pointer none) (.int .i64 0);have hV:w5.heap.size≤wd.heap.size:=hSZ;replace IE:=IE.stay (bG (.cells #[.pointer none,.int .i64 0] 106));replace Iq:=Iq.stay (bG (.cells #[.pointer none,.int .i64 0] 106));replace hB:=hB.alloc hSZ (.cells #[.pointer none,.int .i64 0] 106);replace hSZ:=Nat.le_trans hSZ (show wd.heap.size≤(wd.alloc (.cells #[.pointer none,.int .i64 0] 106)).heap.size by simp);obtain ⟨g,hge⟩:=aU (wd.heap.size);rw [←hge]at hv hV ⊢;clear hge;generalize wd.alloc (.cells #[.pointer none,.int .i64 0] 106)=wA at *;try simp only [aZ]
   refine eD 2 (fun K hK=>?_);go_simp;go_at_call 223
   have hmt:aW wA (none:Option Nat) 0 0:=trivial;(with_reducible refine (pQ IE hmt).mono ?_);rintro e w6 ⟨A,n6,c6,rfl,hr, -,hb⟩;replace Iq:=Iq.stay hb;replace hB:=hB.trans (hb.mono hSZ);replace hSZ:=Nat.le_trans hSZ hb.size;replace hv:=hv.stay hb;clear hb IE;have c1:k≤n6:=by have:=hr.len;have:=HU.out;omega
   have c2:k≤c6:=Nat.le_trans c1 hr.cap;have c3:(0:Int)≤(k:Int):=by omega
   have c4:(k:Int)≤(c6:Int):=by omega
   have c5:(k:Int)≤(n6:Int):=by omega
   refine hK.out _ _ ?_ (fun hH2=>?_)
   ·exact HS.out _ hB
   clear hK K hH;have hH:=hH2;clear hH2;try simp only [aZ]
   refine tk 4 hH ?_;try simp only [aZ]
   refine eD 5 (fun K hK=>?_);go_simp;go_at_call 312
   obtain ⟨ps,hr1,hr2⟩:=hr.take k;(with_reducible refine (xu hr1 hr2 (by rw [List.length_take];have:=HU.out;omega) (Nat.lt_of_le_of_lt (cO _ _) HU.out.2.2.2.2.2.2) (jw HO.out.1 (List.take_sublist k _))).mono ?_);rintro e w7 ⟨p7,rfl,Ir,hb⟩;replace Iq:=Iq.stay hb;replace hB:=hB.trans (hb.mono hSZ);replace hSZ:=Nat.le_trans hSZ hb.size;replace hv:=hv.stay hb;clear hb hr hr1 hr2;refine hK.out _ _ ?_ (fun hH2=>?_)
   ·exact HS.out _ hB
   clear hK K hH;have hH:=hH2;clear hH2;try simp only [aZ]
   refine eD 7 (fun K hK=>?_);go_simp;go_at_call 144
   (with_reducible refine (eZ Iq).mono ?_);rintro e w8 ⟨p8,rfl,Iw,hb⟩;replace Ir:=Ir.stay hb;replace Iw:aA w8 ⟨us⟩ p8:=Iw;replace hB:=hB.trans (hb.mono hSZ);replace hSZ:=Nat.le_trans hSZ hb.size;replace hv:=hv.stay hb;clear hb Iq;refine hK.out _ _ ?_ (fun hH2=>?_)
   ·exact HS.out _ hB
   clear hK K hH;have hH:=hH2;clear hH2;try simp only [aZ]
   refine eD 8 (fun K hK=>?_);go_simp;go_at_call 313
   (with_reducible refine (jB Ir Iw (by rw [HU.out.2.1];have:=HU.out;omega) (by rw [HU.out.2.1];exact gY HO.out.1 k)).mono ?_);rintro e w9 ⟨p9,rfl,IA,hb⟩;rw [HU.out.2.1]at IA;replace hB:=hB.trans (hb.mono hSZ);replace hSZ:=Nat.le_trans hSZ hb.size;replace hv:=hv.stay hb;clear hb Ir Iw;refine hK.out _ _ ?_ (fun hH2=>?_)
   ·exact HS.out _ hB
   clear hK K hH;have hH:=hH2;clear hH2;try simp only [aZ]
   have vc0:=hv.c0;have vc1:=hv.c1;have vz0:=hv.z0;have vz1:=hv.z1;refine eD 10 (fun K hK=>?_);go_simp;refine hK.out _ _ ?_ (fun hH2=>?_)
   ·exact HS.out _ (aL hB hV _ _)
   clear hK K hH;have hH:=hH2;clear hH2;have hv2:=hv.set (.pointer p9.q) (.int .i64 p9.n);have Io:=IA.set2 hv dh (.pointer p9.q) (.int .i64 p9.n);have hB2:=aL hB hV (.pointer p9.q) (.int .i64 p9.n);clear vc0 vc1 vz0 vz1;try simp only [aZ]
   refine dn ?_;clear hH;exact ⟨rfl,_,_,_,_,_,_,_,_,_,g,p9,by (try simp only [aZ]);rfl,hB2,hV,hv2,Io⟩
 rintro x' w6 ⟨u27,u28,u29,u30,u31,u32,u33,u34,u35,g,p9,rfl,hB,hG,hg,ht⟩;try simp only [aZ]
 have K6:=hdz (K5.out.stay hB);have B6:=hdz (af (B5.out.2.1.stay hB) hg);have L6:=hdz (af ht (L5.out.2.2.stay hB));clear hB hG hg ht K5 B5 L5;go_wp2_with fail
 ((with_reducible refine (uI fa (some u) _ L6.out.2 (by have:=HU.out;simp only [bF];omega)).mono ?_);rintro e w7 ⟨v7,ps,rfl,hk7,hown,hb⟩);obtain ⟨A7,c7,rfl,hr7,hc7, -, -⟩:=hown.form;have hts:=(iG.ts hk7).kp (bO.below hb);have K7:=hdz (K6.out.stay hb);have B7:=hdz (af (B6.out.1.stay hb) (B6.out.2.stay hb));have L7:=hdz (L6.out.1.stay hb);have HR7:=hdz (af (show Row1 Lt.one w7 A7 ps from hr7) hts);have hpl:=hts.length;have hkl:u.ks.list.length≤u.size:=by rw [ay.lF];have:=u.wz;exact Nat.le_of_lt this
 obtain ⟨n7,hn7⟩:=aU (ps.length);rw [←hn7];have HN7:=hdz (show n7=ps.length∧n7<268435456 from ⟨hn7,by have:=HU.out;have h9:ps.length=u.ks.list.length:=hpl;omega⟩);clear hk7 hown hr7 hb hts K6 B6 L6 hn7 hpl hkl;go_wp2_with fail
 ((with_reducible refine (Lt.Bg HN7.out.1 HR7.out.1 (by have:=HN7.out;omega)).mono ?_);rintro e w8 ⟨q8,n8,rfl,hl8,hb⟩);have K8:=hdz (K7.out.stay hb);have B8:=hdz (af (B7.out.1.stay hb) (B7.out.2.stay hb));have L8:=hdz (af (L7.out.stay hb) (af hl8 (HR7.out.2.kp (bO.below hb))));clear hl8 hb K7 B7 L7 HR7;go_wp2_with fail
 (with_reducible refine (Lt.Cq L8.out.2.1).mono ?_);rintro e w9 ⟨q9,n9,rfl,hl9,hb⟩
 have hkids:aA w9 ⟨aO (t::r) k⟩ ⟨q9,(n9:Int)⟩:=by
  rw [HU.out.1];exact aA.of hl9 ((L8.out.2.2.kp (bO.below hb)).reverse) (by rw [gy,gJ];have:=HU.out;have h9:u.size=1+u.bs.length+u.ks.size:=rfl;omega) (uE HO.out.2.1 HO.out.2.2)
 have hA:=(Below.refl w9.heap.size w9).alloc (Nat.le_refl _) (.cells #[.pointer q9,.int .i64 (n9:Int)] 108);have K9:=hdz ((K8.out.stay hb).stay hA);have B9:=hdz (af ((B8.out.1.stay hb).stay hA) (af ((B8.out.2.stay hb).stay hA) (aB.new w9 108 (.pointer q9) (.int .i64 (n9:Int)))));have L9:=hdz (af ((L8.out.1.stay hb).stay hA) (hkids.stay hA));clear hl9 hb K8 B8 L8 hkids hA;have c0:=B9.out.2.2.c0;have c1:=B9.out.2.2.c1;have d0:=B9.out.2.1.c0;have d1:=B9.out.2.1.c1;go_wp2_with fail
 generalize w9.alloc (.cells #[.pointer q9,.int .i64 (n9:Int)] 108)=wB at *;generalize w9.heap.size=b9 at *;have HMM:=eT mo ⟨aO (t::r) k⟩ ⟨aK (t::r) k⟩ (c+(Lh.mk (t::r)).bT) m ⟨q9,(n9:Int)⟩ p9 wB (by show ah (aO (t::r) k)+ah (aK (t::r) k)<_;exact HPS.out) K9.out.mt (by have:=HN.out;omega) (by have:=HN.out;have:=HPO.out;omega) HN.out.2.2.1 (by have:=HN.out;omega) L9.out.2 L9.out.1;((with_reducible refine HMM.mono ?_);rintro e w10 ⟨p10,rfl,ht10,hm10,hb10⟩);have R10:=hdz (B9.out.1.bt hb10 K9.out.mt (by decide));have K10:=hdz (K9.out.turn hm10 hb10 ax);have L10:=hdz ht10;have z0:=R10.out.z0;have z1:=R10.out.z1;have r0:=R10.out.c0;have r1:=R10.out.c1;have s0:=(R10.out.set (.pointer p10.q) (.int .i64 p10.n)).c0;have s1:=(R10.out.set (.pointer p10.q) (.int .i64 p10.n)).c1;clear ht10 hm10 hb10 c0 c1 d0 d1;go_wp2_with fail
 have hk:=K10.out.eY R10.out aj (by decide) (by have:=HA.out;omega) (.pointer p10.q) (.int .i64 p10.n);have e1:c+(((Lh.mk (t::r)).oK+(Lh.mk (t::r)).bT:Nat):Int)=c+((Lh.mk (t::r)).bT:Nat)+(aQ ⟨aO (t::r) k⟩ ⟨aK (t::r) k⟩:Nat):=by have h9:aQ ⟨aO (t::r) k⟩ ⟨aK (t::r) k⟩=aI (aO (t::r) k) (aK (t::r) k):=rfl;rw [HPO.out.2.1,h9];omega
 have e2:m+((Lh.mk (t::r)).oK:Nat)=m+((aQ ⟨aO (t::r) k⟩ ⟨aK (t::r) k⟩:Nat):Int):=by rw [HPO.out.2.1];rfl
 exact bodyPost_ret (v := .tuple #[hp p10,.bool true]) (by simp [results,Tryz.results359,go_sem,s0,s1]) rfl ⟨p10,rfl,by rw [HPO.out.1];exact L10.out.set2 R10.out aj _ _,by rw [e1,e2];exact hk.mt,hk.bt⟩
theorem jb (mo:Option Nat)(c m:Int)(h:Lh)(p:HP)(w:World)(_hs:h.size<268435456)(hm:aW w mo c m)(h0:0≤c)(h1:c<288230376151711744)(h2:0≤m)(h3:m<576460752303423487)
  (hh:aA w h p):Calls Tryz.prog 359 #[hp p,aF mo] w (gP mo (c+(h.oK+h.bT:Nat)) (m+h.oK) h.pop h.some w):=by
 obtain ⟨ts⟩:=h
 cases ts with
 | nil =>
  refine (kV mo c m p w hm h0 h1 h2 h3 hh).mono fun e w' ⟨p',he,ht,hm',hb⟩=>⟨p',he,ht,?_,hb⟩;have e1:(Lh.mk []).oK=0:=rfl;have e2:(Lh.mk []).bT=0:=rfl;rw [e1,e2];simpa using hm'
 | cons t r=>exact kX mo c m t r p w hm h0 h1 h2 h3 hh
end Go.Proofs.YtmeodbjlmjpnbaaGreat.Bi.Hp
namespace Go.Proofs.YtmeodbjlmjpnbaaGreat.Bi.Hp
open Go.Sort Go.RowKit
theorem oQ (xs:List (Int×Int))(k:Nat)(h:k<xs.length):dN .nil (xs.take (k+1))=dN .nil (xs.take k)+aQ (.one xs[k]) (fG (xs.take k)):=by
 rw [List.take_succ_eq_append_getElem h,kJ];rfl
theorem kY (xs:List (Int×Int))(k:Nat)(h:k<xs.length):fG (xs.take (k+1))=(fG (xs.take k)).insert xs[k]:=by
 rw [List.take_succ_eq_append_getElem h,lI]
theorem nC (xs:List (Int×Int))(h:xs.length<16777216):dN .nil xs<562949953421312:=by
 have h1:=nZ xs .nil;have h0:Lh.nil.size=0:=rfl;rw [h0]at h1;have h2:xs.length*(0+xs.length+1)≤16777216*16777216:=Nat.mul_le_mul (by omega) (by omega);omega
theorem kC (mo:Option Nat)(c m:Int)(A:Option Addr)(xs:List (Int×Int))(cap:Nat)(w:World)(hm:aW w mo c m)(h0:0≤c)(h1:c<288230376151711744)(h2:0≤m)(h3:m<288230376151711744)(hr:Row w A xs)(hn:xs.length<16777216)
  (hne:0<xs.length → ∀b,mo=some b → ∀q,A=some q→q.block≠b) :
  Calls Tryz.prog 43 #[aF mo,.slice A xs.length cap] w (bU mo (c+dN .nil xs) (m+(xs.length:Nat)+dN .nil xs) (fG xs) w):=by
 have K1:dL au mo w c m ((w.alloc (.cells #[.pointer none,.int .i64 0] 108)).alloc (.cells #[.pointer none,.int .i64 0] 108)):=((dL.refl hm).alloc _).alloc _;have e1:aB ((w.alloc (.cells #[.pointer none,.int .i64 0] 108)).alloc (.cells #[.pointer none,.int .i64 0] 108)) w.heap.size 108 (.pointer none) (.int .i64 0):=(aB.new w 108 _ _).alloc _
 have e2:aB ((w.alloc (.cells #[.pointer none,.int .i64 0] 108)).alloc (.cells #[.pointer none,.int .i64 0] 108)) (w.heap.size+1) 108 (.pointer none) (.int .i64 0):=by
  have:=aB.new (w.alloc (.cells #[.pointer none,.int .i64 0] 108)) 108 (.pointer none) (.int .i64 0);simpa only [World.size_alloc] using this
 have HR:=hdz (af hr hne);have HN:=hdz (af h0 (af h1 (af h2 h3)));have HE:=hdz (af e1 e2);have KK:=hdz K1;obtain ⟨n,hnn⟩:=aU (xs.length);rw [←hnn]at hn ⊢;have HX:=hdz hnn;clear hr hne h0 h1 h2 h3 K1 hm e1 e2 hnn;go_enter Tryz.func43,Tryz.ntmps43
 go_wp2_with fail
 generalize (w.alloc (.cells #[.pointer none,.int .i64 0] 108)).alloc (.cells #[.pointer none,.int .i64 0] 108)=w1 at *;obtain ⟨a,ha⟩:=aU (w.heap.size);rw [←ha]at HE ⊢;have HA:=hdz ha;clear ha;go_loopg [10] n (fun k i wr => ∃(j:Nat) (p:HP),i=.int .i64 (j:Int)∧j+k=n∧aB wr a 108 (.pointer none) (.int .i64 0)∧aB wr (a+1) 108 (.pointer p.q) (.int .i64 p.n)∧aA wr (fG (xs.take j)) p∧dL au mo w (c+dN .nil (xs.take j)) (m+(j:Nat)+dN .nil (xs.take j)) wr)
 case atStart=>exact ⟨0,⟨none,0⟩,rfl,by omega,HE.out.1,HE.out.2,aA.nil _,by simpa [dN] using KK.out⟩
 case round =>
  obtain ⟨j,p,rfl,hj,hra,hrb,ht,hk⟩:=hrel;by_cases hlt:j<n
  ·have hjx:j<xs.length:=by rw [←HX.out];exact hlt
   obtain ⟨b,o,rfl,hc⟩:=HR.out.1 (by omega);have hx:=qm hc j hjx;have hne:=fun bb (eb:mo=some bb)=>HR.out.2 (by omega) bb eb _ rfl;have x0:=hk.bt.cell hx.1 hne;have x1:=hk.bt.cell hx.2 hne;have hp:=nC (xs.take j) (by rw [List.length_take];omega);have hsz:(fG (xs.take j)).size=j:=by rw [kW,List.length_take];omega
   have eP:=oQ xs j hjx;have eO:=kY xs j hjx;generalize xs[j]=x at *;obtain ⟨y1,y2⟩:=x;have q1:(j:Int)<(n:Int):=by omega
   have q2:(0:Int)≤(j:Int):=by omega
   have h1c:=hrb.c0;have h1d:=hrb.c1;have h2c:=(hrb.alloc (.cells #[.int .i64 y1,.int .i64 y2] 29)).c0;have h2d:=(hrb.alloc (.cells #[.int .i64 y1,.int .i64 y2] 29)).c1;have X:=hdz (af hra (af hrb (af ht (af hk (af eP (af eO (af hp (af hsz hj))))))));clear hra hrb ht hk eP eO hp hsz hj hc hx hne hjx;go_wp2_with fail
   clear h1c h2c h1d h2d x0 x1;((with_reducible refine (di mo _ _ (fG (xs.take j)) (y1,y2) p _ (by rw [X.out.2.2.2.2.2.2.2.1];omega) (X.out.2.2.2.1.alloc _).mt (by have:=HN.out;omega) (by have:=HN.out;have:=X.out.2.2.2.2.2.2.1;omega) (by have:=HN.out;omega) (by have:=HN.out;have:=X.out.2.2.2.2.2.2.1;omega) (X.out.2.2.1.stay (bG _))).mono ?_);rintro e w2 ⟨p2,rfl,ht2,hm2,hb2⟩);obtain ⟨hra,hrb,ht,hk,eP,eO,hp,hsz,hj⟩:=X.out;have hk2:=(hk.alloc (.cells #[.int .i64 y1,.int .i64 y2] 29)).turn hm2 hb2 ax;have ra2:=(hra.alloc (.cells #[.int .i64 y1,.int .i64 y2] 29)).bt hb2 (hk.alloc _).mt (by decide);have rb2:=(hrb.alloc (.cells #[.int .i64 y1,.int .i64 y2] 29)).bt hb2 (hk.alloc _).mt (by decide);have e1:c+((dN .nil (xs.take (j+1)):Nat):Int)=c+(dN .nil (xs.take j):Nat)+(aQ (.one (y1,y2)) (fG (xs.take j)):Nat):=by rw [eP];omega
   have e2:m+((j+1:Nat):Int)+(dN .nil (xs.take (j+1)):Nat)=m+(j:Nat)+(dN .nil (xs.take j):Nat)+1+(aQ (.one (y1,y2)) (fG (xs.take j)):Nat):=by rw [eP];omega
   rw [←e1,←e2]at hk2;rw [←eO]at ht2;have z2:=rb2.z0;have z3:=rb2.z1;have r2:=rb2.c0;have r3:=rb2.c1;have Y:=hdz (af (ra2.aside (g:=a+1) (by omega) (.pointer p2.q) (.int .i64 p2.n)) (af (rb2.set (.pointer p2.q) (.int .i64 p2.n)) (af (ht2.set2 rb2 aj (.pointer p2.q) (.int .i64 p2.n)) (hk2.eY rb2 aj (by decide) (by rw [←HA.out];omega) (.pointer p2.q) (.int .i64 p2.n)))));clear hra hrb ht hk eP eO hp hsz hk2 ra2 rb2 e1 e2 ht2 hm2 hb2 X;go_wp2_with fail
   go_roundg (n - 1 - j)
   case measure=>omega
   case rel=>exact ⟨j+1,p2,by congr 1,by omega,Y.out.1,Y.out.2.1,Y.out.2.2.1,Y.out.2.2.2⟩
  ·have hjn:j=n:=by omega
   subst hjn;rw [HX.out,List.take_length]at ht hk;rw [←HX.out]at hk;have h1c:=hrb.c0;have h1d:=hrb.c1;have r6:=hra.c0;have r7:=hra.c1;have z6:=hra.z0;have z7:=hra.z1;have s0:=(hra.set (.pointer p.q) (.int .i64 p.n)).c0;have s1:=(hra.set (.pointer p.q) (.int .i64 p.n)).c1;have hk2:=hk.eY hra aj (by decide) (by rw [←HA.out];omega) (.pointer p.q) (.int .i64 p.n);have X:=hdz (af (ht.set2 hra aj (.pointer p.q) (.int .i64 p.n)) hk2);clear hra hrb ht hk hk2 hlt hj;go_wp2_with fail
   exact bodyPost_ret (v:=hp p) (by simp [results,Tryz.results43,go_sem,s0,s1]) rfl ⟨p,rfl,X.out.1,X.out.2.mt,X.out.2.bt⟩
def Gj (t:Lh)(is:Bool)(w:World)(e:Ending)(w':World):Prop:=∃p:HP,e=.returned (.tuple #[.agg #[.pointer p.q,.int .i64 p.n],.bool is])∧aA w' t p∧Below w.heap.size w w'
theorem oK (t:Lh)(p:HP)(w:World)(h:aA w t p)(hs:t.size<16777216):Calls Tryz.prog 359 #[hp p,.pointer none] w (Gj t.pop t.some w) :=
 (jb none 0 0 t p w (by omega) trivial (by decide) (by decide) (by decide) (by decide) h).mono fun _ _ ⟨p,he,ht,_,hb⟩=>⟨p,he,ht,hb.gK⟩
end Go.Proofs.YtmeodbjlmjpnbaaGreat.Bi.Hp
namespace Go.Proofs.YtmeodbjlmjpnbaaGreat.Bi.Hp
open Go.Sort Go.RowKit
theorem ic {h:Lh}(hg:h.good):h.min=(hd (dw h.all),decide (0<(dw h.all).length)):=by
 obtain ⟨ts⟩:=h
 cases ts with
 | nil=>rw [show (Lh.mk []).all=[] from rfl,kr];rfl
 | cons t r =>
  have hs:(Lh.mk (t::r)).min.2=true:=rfl;rw [jK (h:=⟨t::r⟩) hg.ok hs];exact Prod.ext rfl hs
theorem jM {h:Lh}(hg:h.good):h.some=decide (0<(dw h.all).length):=(show h.some=h.min.2 by exact (jX h).symm).trans (congrArg Prod.snd (ic hg))
theorem dJ (h:Lh):(dw h.all).length=h.size:=by rw [kG,Lh.aD]
theorem wN (h:Lh)(q:Option Addr)(n:Int)(w:World)(hg:h.good)(hh:aA w h ⟨q,n⟩) :
  Calls Tryz.prog 269 #[.agg #[.pointer q,.int .i64 n],.pointer none] w fun e w'=>e=.returned (.tuple #[el (hd (dw h.all)),.bool (decide (0<(dw h.all).length))])∧Below w.heap.size w w':=by
 have hm:∀(k:Nat) (w:World),(method (k+1) 108 (.agg #[.pointer q,.int .i64 n]) "Min").run Tryz.prog w=.ok (358,.agg #[.pointer q,.int .i64 n]) w:=fun _ _=>by kernel_rfl
 have hb1:Below w.heap.size w ((w.alloc (.cells #[.pointer q,.int .i64 n] 179)).alloc (.cells #[.int .i64 0,.int .i64 0] 29)):=(bG _).alloc (by simp) _
 have hv:aB ((w.alloc (.cells #[.pointer q,.int .i64 n] 179)).alloc (.cells #[.int .i64 0,.int .i64 0] 29)) (w.heap.size+1) 29 (.int .i64 0) (.int .i64 0):=by
  have:=aB.new (w.alloc (.cells #[.pointer q,.int .i64 n] 179)) 29 (.int .i64 0) (.int .i64 0);simpa only [World.size_alloc] using this
 have H:=hdz (af (hh.stay hb1) (af hb1 hv));obtain ⟨x,hx⟩:=aU (h.min);obtain ⟨⟨x1,x2⟩,z⟩:=x;have hx2:=hx.trans (ic hg);rw [show hd (dw h.all)=(x1,x2) from (congrArg Prod.fst hx2).symm,show decide (0<(dw h.all).length)=z from (congrArg Prod.snd hx2).symm];have HM:fH h=.tuple #[.agg #[.int .i64 x1,.int .i64 x2],.bool z]:=by unfold fH;rw [←hx]
 have HN:=hdz HM;clear hh hb1 hg hx hx2 HM hv;go_enter Tryz.func269,Tryz.ntmps269
 go_wp2_with fail
 refine (iX none 0 0 h ⟨q,n⟩ _ trivial (by decide) (by decide) H.out.1).mono ?_;rintro e w1 ⟨he, -,hb0⟩;have hb:=hb0.gK;clear hb0;rw [HN.out]at he;subst he;have hv:=H.out.2.2.stay hb;have c0:=hv.c0;have c1:=hv.c1;have z0:=hv.z0;have z1:=hv.z1;have hs:=hv.set (.int .i64 x1) (.int .i64 x2);have k0:=hs.c0;have k1:=hs.c1;have Y:=hdz (H.out.2.1.trans (hb.mono H.out.2.1.size));clear hb hv hs;go_wp2_with fail
 refine bodyPost_ret (v := .tuple #[.agg #[.int .i64 x1,.int .i64 x2],.bool z]) (by simp [results,Tryz.results269,go_sem,k0,k1]) rfl ⟨rfl,(Y.out.setCell (by simp) _).setCell (by simp) _⟩
theorem xO (h:Lh)(q:Option Addr)(n:Int)(w:World)(hs:h.size<16777216)(hh:aA w h ⟨q,n⟩) :
  Calls Tryz.prog 270 #[.agg #[.pointer q,.int .i64 n],.pointer none] w fun e w' => ∃(q':Option Addr) (n':Int),e=.returned (.tuple #[.iface 179 (.agg #[.pointer q',.int .i64 n']),.bool h.some])∧aA w' h.pop ⟨q',n'⟩∧Below w.heap.size w w':=by
 have hm:∀(k:Nat) (w:World),(method (k+1) 108 (.agg #[.pointer q,.int .i64 n]) "Pop").run Tryz.prog w=.ok (359,.agg #[.pointer q,.int .i64 n]) w:=fun _ _=>by kernel_rfl
 have hb1:Below w.heap.size w (w.alloc (.cells #[.pointer q,.int .i64 n] 179)):=bG _;have H:=hdz (af (hh.stay hb1) hb1);have HS:=hdz hs;obtain ⟨z,hz⟩:=aU (h.some);rw [←hz];have HZ:=hdz hz;clear hh hb1 hs hz;go_enter Tryz.func270,Tryz.ntmps270
 go_wp2_with fail
 refine (jb none 0 0 h ⟨q,n⟩ _ (by have:=HS.out;omega) trivial (by decide) (by decide) (by decide) (by decide) H.out.1).mono ?_;rintro e w1 ⟨⟨q',n'⟩,he,ht, -,hb⟩;rw [←HZ.out]at he;subst he;have Y:=hdz (af ht trivial);have hT:=H.out.2.trans (hb.gK.mono H.out.2.size);have HT:=hdz hT;clear ht hb hT;go_wp2_with fail
 refine bodyPost_ret (v := .tuple #[.iface 179 (.agg #[.pointer q',.int .i64 n']),.bool z]) (by simp [results,Tryz.results270,go_sem]) rfl ⟨q',n',rfl,Y.out.1.stay (bG _),HT.out.alloc HT.out.size _⟩
theorem qV (h:Lh)(q:Option Addr)(n:Int)(w:World)(hh:aA w h ⟨q,n⟩) :
  Calls Tryz.prog 272 #[.agg #[.pointer q,.int .i64 n]] w fun e w'=>e=.returned (.int .i64 (h.size:Nat))∧Below w.heap.size w w':=by
 have hm:∀(k:Nat) (w:World),(method (k+1) 108 (.agg #[.pointer q,.int .i64 n]) "Size").run Tryz.prog w=.ok (360,.agg #[.pointer q,.int .i64 n]) w:=fun _ _=>by kernel_rfl
 have hb1:Below w.heap.size w (w.alloc (.cells #[.pointer q,.int .i64 n] 179)):=bG _;have H:=hdz (af (hh.stay hb1) hb1);obtain ⟨z,hz⟩:∃z:Int,z=(h.size:Nat):=⟨_,rfl⟩;rw [←hz];have HZ:=hdz hz;clear hh hb1 hz;go_enter Tryz.func272,Tryz.ntmps272
 go_wp2_with fail
 refine (eF h ⟨q,n⟩ _ H.out.1).mono ?_;rintro e w1 ⟨he,hb⟩;rw [←HZ.out]at he;subst he;have Y:=hdz (H.out.2.trans (hb.mono H.out.2.size));clear hb;go_wp2_with fail
 refine bodyPost_ret (v := .int .i64 z) (by simp [results,Tryz.results272,go_sem]) rfl ⟨rfl,Y.out⟩
theorem qM (v:Value)(w:World):Calls Tryz.prog 37 #[.agg #[.iface 179 v]] w fun e w'=>e=.returned (.int .i64 2)∧Below w.heap.size w w':=by
 have hb1:Below w.heap.size w (w.alloc (.cells #[.iface 179 v] 27)):=bG _;have h1:∀(w:World),(Instr.typeAssert (.iface 179 v) 25 177 true).run Tryz.prog w=.ok (.tuple #[.agg #[.pointer none],.bool false]) w:=fun _=>by kernel_rfl
 have h2:∀(w:World),(Instr.typeAssert (.iface 179 v) 25 179 true).run Tryz.prog w=.ok (.tuple #[v,.bool true]) w:=fun _=>by kernel_rfl
 go_enter Tryz.func37,Tryz.ntmps37
 go_wp2_with fail
 refine bodyPost_ret (v := .int .i64 2) (by simp [results,Tryz.results37,go_sem]) rfl ⟨rfl,hb1⟩
theorem EI (q:Option Addr)(n:Int)(w:World):Calls Tryz.prog 42 #[.agg #[.pointer q,.int .i64 n]] w fun e w'=>e=.returned (.agg #[.iface 179 (.agg #[.pointer q,.int .i64 n])])∧Below w.heap.size w w':=by
 have hb1:Below w.heap.size w ((w.alloc (.cells #[.pointer q,.int .i64 n] 108)).alloc (.cells #[.iface 179 (.agg #[.pointer q,.int .i64 n])] 27)):=(bG _).alloc (by simp) _;go_enter Tryz.func42,Tryz.ntmps42
 go_wp2_with fail
 refine bodyPost_ret (v := .agg #[.iface 179 (.agg #[.pointer q,.int .i64 n])]) (by simp [results,Tryz.results42,go_sem]) rfl ⟨rfl,hb1⟩
theorem ET (A:Option Addr)(xs:List (Int×Int))(cap:Nat)(w:World)(hr:Row w A xs)(hn:xs.length<16777216) :
  Calls Tryz.prog 18 #[.pointer none,.int .i64 2,.slice A xs.length cap] w fun e w' => ∃(q':Option Addr) (n':Int),e=.returned (.tuple #[.agg #[.iface 179 (.agg #[.pointer q',.int .i64 n'])],.int .i64 0])∧aA w' (fG xs) ⟨q',n'⟩∧Below w.heap.size w w':=by
 have hb1:Below w.heap.size w (w.alloc (.cells #[.nilIface] 27)):=bG _;have H:=hdz (af (hr.below hb1) hb1);obtain ⟨L,hL⟩:=aU (xs.length);have HL:=hdz (af hL (hL▸hn:L<16777216));rw [←hL];clear hr hb1 hL hn;go_enter Tryz.func18,Tryz.ntmps18
 go_wp2_with fail
 have hL:=HL.out.1;subst hL;refine (kC none 0 0 A xs cap _ trivial (by decide) (by decide) (by decide) (by decide) H.out.1 HL.out.2 (fun _ _ e=>by cases e)).mono ?_;rintro e w1 ⟨⟨q',n'⟩,rfl,ht, -,hb⟩;have hB:=hb.gK;have hF:w1.heap[w.heap.size]?=some (.cells #[.nilIface] 27 (0,0)):=(hB.block _ (by simp)).trans (heap_alloc_new w _);have Y:=hdz (af ht (af (H.out.2.trans (hB.mono H.out.2.size)) hF));clear hB hF;clear ht hb;go_wp2_with fail
 refine (EI q' n' _).mono ?_;rintro e w2 ⟨rfl,hb2⟩;have hF:=(hb2.block _ (lt_of_heap Y.out.2.2)).trans Y.out.2.2;have k0:=one_cell hF;have z0:=iQ hF;have Z:=hdz (af (Y.out.1.stay hb2) (af (Y.out.2.1.trans (hb2.mono Y.out.2.1.size)) hF));clear hb2 hF;have k1:=one_cell (gD Z.out.2.2 (.iface 179 (.agg #[.pointer q',.int .i64 n'])));go_wp2_with fail
 refine bodyPost_ret (v := .tuple #[.agg #[.iface 179 (.agg #[.pointer q',.int .i64 n'])],.int .i64 0]) (by simp [results,Tryz.results18,go_sem,k1]) rfl ⟨q',n',rfl,Z.out.1.fQ (bO.set Z.out.2.2 (by unfold au dV;decide) 0 _) (by simp [World.setCell]),Z.out.2.1.setCell (Nat.le_refl _) _⟩
theorem fC {W W':World}(h:bO NH W W'):bO au W W':=fun b cs t ht=>h b cs t (by unfold au dV at ht;rcases ht with (rfl|rfl|rfl)|rfl<;>decide)
def At (W:World)(v:Value)(l:List (Int×Int)):Prop:=∃(q:Option Addr) (n:Int),v=.agg #[.pointer q,.int .i64 n] ∧ ∃h:Lh,aA W h ⟨q,n⟩∧h.good∧dw h.all=l
theorem mr:iT 2 179 267 268 269 270 272 At where
 mN:=fun _ _ _=>by kernel_rfl
 mP:=fun _ _ _=>by kernel_rfl
 mS:=fun _ _ _=>by kernel_rfl
 cN:=fun _ _=>by kernel_rfl
 cP:=fun _ _=>by kernel_rfl
 cS:=fun _ _=>by kernel_rfl
 stay:=fun ha hb=>by
  obtain ⟨q,n,rfl,h,hh,hg,rfl⟩:=ha;exact ⟨q,n,rfl,h,hh.stay hb,hg,rfl⟩
 keep:=fun ha hk hs=>by
  obtain ⟨q,n,rfl,h,hh,hg,rfl⟩:=ha;exact ⟨q,n,rfl,h,hh.fQ (fC hk) hs,hg,rfl⟩
 min:=fun v l w ha=>by
  obtain ⟨q,n,rfl,h,hh,hg,rfl⟩:=ha;exact wN h q n w hg hh
 pop:=fun v l w ha hn=>by
  obtain ⟨q,n,rfl,h,hh,hg,rfl⟩:=ha;rw [dJ]at hn;exact (xO h q n w hn hh).mono fun e w' ⟨q',n',he,ht,hb⟩=>⟨_,by rw [←jM hg];exact he,⟨q',n',rfl,_,ht,jE hg,kS hg.ok⟩,hb⟩
 size:=fun v l w ha=>by
  obtain ⟨q,n,rfl,h,hh,hg,rfl⟩:=ha;rw [dJ];exact qV h q n w hh
 kind:=fun v w=>qM v w
 of:=fun A xs cap w hr hn hf=>(ET A xs cap w hr hn).mono fun e w' ⟨q',n',he,ht,hb⟩=>⟨_,he,⟨q',n',rfl,_,ht,kT hf,nD xs⟩,hb⟩
end Go.Proofs.YtmeodbjlmjpnbaaGreat.Bi.Hp
