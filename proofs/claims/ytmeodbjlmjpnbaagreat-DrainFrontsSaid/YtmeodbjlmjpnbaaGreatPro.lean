/- Plain facts, of no program: skew binomial heaps with their least element apart (a root, and a heap of all others), under the names that the laws' walks use: put in, melded, of a row, the least one taken out: elements, order, sizes, counts (comparisons and what is made apart). No conditions. -/
import Derived.Test.YtmeodbjlmjpnbaaGreatPsa
import Derived.Test.YtmeodbjlmjpnbaaGreatPsb
import Derived.Deep.RegionHeld3
import Derived.Test.YtmeodbjlmjpnbaaGreatPa
import Derived.Deep.LoopGhost
import Derived.Handy
set_option maxRecDepth 100000
set_option maxHeartbeats 16000000
namespace Go.Proofs.YtmeodbjlmjpnbaaGreat.Sk.Ro
open Go.Sort Go.RowKit
abbrev Sk:=Go.Proofs.YtmeodbjlmjpnbaaGreat.Sk.Lh
inductive Lh
 | nil
 | node (x:Int×Int) (o:Sk)
def Lh.size:Lh→Nat
 | .nil=>0
 | .node _ o=>o.size+1
def Lh.all:Lh→List (Int×Int)
 | .nil=>[]
 | .node x o=>x::o.all
def Lh.show:Lh→List UInt8
 | .nil=>[46]
 | .node x o=>textOf x.1 x.2++32::o.show
def Lh.min:Lh→(Int×Int)×Bool
 | .nil=>((0,0),false)
 | .node x _=>(x,true)
def Lh.some (h:Lh):Bool:=h.min.2
def Lh.one (x:Int×Int):Lh := .node x .nil
def Lh.insert:Lh→(Int×Int)→Lh
 | .nil,x=>.one x
 | .node r o,x=>if dH x r=true then .node x (o.insert r) else .node r (o.insert x)
def Lh.iJ:Lh→Nat
 | .nil=>0
 | .node _ o=>o.iJ+1
def Lh.iF:Lh→Nat
 | .nil=>1
 | .node _ o=>o.iF+1
def bI:Lh→Lh→Lh
 | .nil,b=>b
 | .node x o,.nil=>.node x o
 | .node x o,.node y p=>if dH y x=true then .node y ((Go.Proofs.YtmeodbjlmjpnbaaGreat.Sk.bI o p).insert x) else .node x ((Go.Proofs.YtmeodbjlmjpnbaaGreat.Sk.bI o p).insert y)
def Lh.pop:Lh→Lh
 | .nil=>.nil
 | .node _ o=>if o.some=true then .node o.min.1 o.pop else .nil
def Lh.jf:Lh→Nat
 | .nil=>0
 | .node _ o=>if o.some=true then o.bT+(o.jf+o.bT) else 0
def Lh.jl:Lh→Nat
 | .nil=>0
 | .node _ o=>if o.some=true then o.jl+1 else 0
def fG (l:List (Int×Int)):Lh:=l.foldl Lh.insert .nil
def dG:Lh→List (Int×Int)→Nat
 | _,[]=>0
 | h,x::r=>h.iJ+dG (h.insert x) r
def dD:Lh→List (Int×Int)→Nat
 | _,[]=>0
 | h,x::r=>h.iF+dD (h.insert x) r
theorem pF {x y:Int×Int}(h:dH x y=true):dH y x=false:=by
 rw [ku]at h;rw [iA];omega
theorem uL {x r:Int×Int}{o:Sk}(h:dH x r=true):(Lh.node r o).insert x=.node x (o.insert r):=by show (if dH x r=true then _ else _)=_;rw [if_pos h]
theorem vG {x r:Int×Int}{o:Sk}(h:dH x r=false):(Lh.node r o).insert x=.node r (o.insert x):=by show (if dH x r=true then _ else _)=_;rw [if_neg (by rw [h];simp)]
theorem fT (a:Lh):bI a .nil=a:=by cases a<;>rfl
theorem fw {x y:Int×Int}{o p:Sk}(h:dH y x=true):bI (.node x o) (.node y p)=.node y ((Go.Proofs.YtmeodbjlmjpnbaaGreat.Sk.bI o p).insert x):=by show (if dH y x=true then _ else _)=_;rw [if_pos h]
theorem iY {x y:Int×Int}{o p:Sk}(h:dH y x=false):bI (.node x o) (.node y p)=.node x ((Go.Proofs.YtmeodbjlmjpnbaaGreat.Sk.bI o p).insert y):=by show (if dH y x=true then _ else _)=_;rw [if_neg (by rw [h];simp)]
theorem wZ {x:Int×Int}{o:Sk}(h:o.some=true):(Lh.node x o).pop=.node o.min.1 o.pop:=by show (if o.some=true then _ else _)=_;rw [if_pos h]
theorem kV {x:Int×Int}{o:Sk}(h:o.some=false):(Lh.node x o).pop=.nil:=by show (if o.some=true then _ else _)=_;rw [if_neg (by rw [h];simp)]
theorem Lh.aD (h:Lh):h.all.length=h.size:=by
 cases h with
 | nil=>rfl
 | node x o=>show (x::o.all).length=o.size+1;rw [List.length_cons,o.aD]
theorem bD (h:Lh)(x:Int×Int):(h.insert x).all.Perm (x::h.all):=by
 cases h with
 | nil =>
  show (x::Go.Proofs.YtmeodbjlmjpnbaaGreat.Sk.Lh.nil.all).Perm [x];exact List.Perm.refl _
 | node r o =>
  by_cases hl:dH x r=true
  ·rw [uL hl];exact List.Perm.cons x (Go.Proofs.YtmeodbjlmjpnbaaGreat.Sk.bD o r)
  ·rw [vG (by simpa using hl)];exact (List.Perm.cons r (Go.Proofs.YtmeodbjlmjpnbaaGreat.Sk.bD o x)).trans (List.Perm.swap x r _)
theorem bP (a b:Lh):(bI a b).all.Perm (a.all++b.all):=by
 cases a with
 | nil=>exact List.Perm.refl _
 | node x o =>
  cases b with
  | nil=>rw [fT];show (x::o.all).Perm ((x::o.all)++[]);rw [List.append_nil]
  | node y p =>
   have hm:=Go.Proofs.YtmeodbjlmjpnbaaGreat.Sk.bP o p;by_cases hl:dH y x=true
   ·rw [fw hl];exact (List.Perm.cons y ((Go.Proofs.YtmeodbjlmjpnbaaGreat.Sk.bD _ x).trans (List.Perm.cons x hm))).trans (List.perm_middle (a:=y) (l₁:=x::o.all) (l₂:=p.all)).symm
   ·rw [iY (by simpa using hl)];exact List.Perm.cons x ((Go.Proofs.YtmeodbjlmjpnbaaGreat.Sk.bD _ y).trans ((List.Perm.cons y hm).trans (List.perm_middle (a:=y) (l₁:=o.all) (l₂:=p.all)).symm))
theorem lD (h:Lh):h.iJ≤3:=by
 cases h with
 | nil=>exact Nat.zero_le _
 | node x o=>have:=Go.Proofs.YtmeodbjlmjpnbaaGreat.Sk.lD o;show o.iJ+1≤3;omega
theorem kZ (h:Lh):h.iF≤3:=by
 cases h with
 | nil=>show 1≤3;omega
 | node x o=>have:=Go.Proofs.YtmeodbjlmjpnbaaGreat.Sk.kZ o;show o.iF+1≤3;omega
theorem jD:∀(l:List (Int×Int)) (h:Lh),(l.foldl Lh.insert h).all.Perm (h.all++l)
 | [],h=>by simp
 | x::r,h=>by
  rw [List.foldl_cons];refine (jD r (h.insert x)).trans (((bD h x).append_right r).trans ?_);exact (List.perm_middle (a:=x) (l₁:=h.all) (l₂:=r)).symm
theorem fJ (l:List (Int×Int)):(fG l).all.Perm l:=jD l .nil
theorem kW (l:List (Int×Int)):(fG l).size=l.length:=by rw [←Lh.aD];exact (fJ l).length_eq
theorem lI (l:List (Int×Int))(x:Int×Int):fG (l++[x])=(fG l).insert x:=by simp [fG]
theorem iU:∀(l:List (Int×Int)) (h:Lh) (x:Int×Int),dG h (l++[x])=dG h l+(l.foldl Lh.insert h).iJ
 | [],h,x=>by simp [dG]
 | y::l,h,x=>by simp only [List.cons_append,dG,List.foldl_cons];rw [iU l (h.insert y) x];omega
theorem iP:∀(l:List (Int×Int)) (h:Lh) (x:Int×Int),dD h (l++[x])=dD h l+(l.foldl Lh.insert h).iF
 | [],h,x=>by simp [dD]
 | y::l,h,x=>by simp only [List.cons_append,dD,List.foldl_cons];rw [iP l (h.insert y) x];omega
theorem nH:∀(l:List (Int×Int)) (h:Lh),dG h l≤3*l.length∧dD h l≤3*l.length
 | [],_=>⟨Nat.le_refl _,Nat.le_refl _⟩
 | x::r,h=>by
  have h1:=nH r (h.insert x);have h2:=lD h;have h3:=kZ h;simp only [dG,dD,List.length_cons];omega
def Lh.ok:Lh→Prop
 | .nil=>True
 | .node x o=>o.ok ∧ ∀e∈o.all,dH e x=false
theorem uR:Lh.ok .nil:=trivial
theorem nU (x:Int×Int):(Lh.one x).ok:=⟨mF,by intro e he;exact absurd he (by simp [Go.Proofs.YtmeodbjlmjpnbaaGreat.Sk.Lh.all,Go.Proofs.YtmeodbjlmjpnbaaGreat.Sk.Lh.nil,aR])⟩
theorem gF {h:Lh}(x:Int×Int)(hk:h.ok):(h.insert x).ok:=by
 cases h with
 | nil=>exact nU x
 | node r o =>
  by_cases hl:dH x r=true
  ·rw [uL hl];refine ⟨Go.Proofs.YtmeodbjlmjpnbaaGreat.Sk.gF r hk.1,fun e he=>?_⟩;have he2:=(Go.Proofs.YtmeodbjlmjpnbaaGreat.Sk.bD o r).subset he;rcases List.mem_cons.1 he2 with rfl|he3
   ·exact pF hl
   ·exact qA.ntrans _ _ _ (hk.2 e he3) (pF hl)
  ·have hl':dH x r=false:=by simpa using hl
   rw [vG hl'];refine ⟨Go.Proofs.YtmeodbjlmjpnbaaGreat.Sk.gF x hk.1,fun e he=>?_⟩;have he2:=(Go.Proofs.YtmeodbjlmjpnbaaGreat.Sk.bD o x).subset he;rcases List.mem_cons.1 he2 with rfl|he3
   ·exact hl'
   ·exact hk.2 e he3
theorem gm (a b:Lh)(ha:a.ok)(hb:b.ok):(bI a b).ok:=by
 cases a with
 | nil=>exact hb
 | node x o =>
  cases b with
  | nil=>exact ha
  | node y p =>
   have hm:=Go.Proofs.YtmeodbjlmjpnbaaGreat.Sk.bP o p;by_cases hl:dH y x=true
   ·rw [fw hl];refine ⟨Go.Proofs.YtmeodbjlmjpnbaaGreat.Sk.gF x (Go.Proofs.YtmeodbjlmjpnbaaGreat.Sk.gm _ _ ha.1 hb.1),fun e he=>?_⟩;rcases List.mem_cons.1 ((Go.Proofs.YtmeodbjlmjpnbaaGreat.Sk.bD _ x).subset he) with rfl|he3
    ·exact pF hl
    ·rcases List.mem_append.1 (hm.subset he3) with h4|h4
     ·exact qA.ntrans _ _ _ (ha.2 e h4) (pF hl)
     ·exact hb.2 e h4
   ·have hl':dH y x=false:=by simpa using hl
    rw [iY hl'];refine ⟨Go.Proofs.YtmeodbjlmjpnbaaGreat.Sk.gF y (Go.Proofs.YtmeodbjlmjpnbaaGreat.Sk.gm _ _ ha.1 hb.1),fun e he=>?_⟩;rcases List.mem_cons.1 ((Go.Proofs.YtmeodbjlmjpnbaaGreat.Sk.bD _ y).subset he) with rfl|he3
    ·exact hl'
    ·rcases List.mem_append.1 (hm.subset he3) with h4|h4
     ·exact ha.2 e h4
     ·exact qA.ntrans _ _ _ (hb.2 e h4) hl'
theorem oo:∀(l:List (Int×Int)) (h:Lh),h.ok→(l.foldl Lh.insert h).ok
 | [],_,hk=>hk
 | x::r,h,hk=>oo r (h.insert x) (gF x hk)
theorem qd (l:List (Int×Int)):(fG l).ok:=oo l .nil uR
theorem EB {o:Sk}(hk:o.ok)(hs:o.some=true):o.all.Perm (o.min.1::o.pop.all)∧(∀e∈o.pop.all,dH e o.min.1=false)∧o.pop.ok:=by
 have hne:o.ts≠[]:=by intro e;unfold Go.Proofs.YtmeodbjlmjpnbaaGreat.Sk.Lh.some Go.Proofs.YtmeodbjlmjpnbaaGreat.Sk.Lh.min at hs;rw [e]at hs;cases hs
 have hp:=jU hne;exact ⟨hp,fun e he=>ql hk.hok hne e (hp.symm.subset (List.mem_cons_of_mem _ he)),Go.Proofs.YtmeodbjlmjpnbaaGreat.Sk.nP hk⟩
theorem Ck {o:Sk}(hs:o.some=false):o=.nil:=by
 refine Go.Proofs.YtmeodbjlmjpnbaaGreat.Sk.Lh.oL ?_;rw [Go.Proofs.YtmeodbjlmjpnbaaGreat.Sk.rE]at hs;simpa using hs
theorem nP {h:Lh}(hk:h.ok):h.pop.ok:=by
 cases h with
 | nil=>exact hk
 | node x o =>
  by_cases hs:o.some=true
  ·rw [wZ hs];have:=EB hk.1 hs;exact ⟨this.2.2,this.2.1⟩
  ·rw [kV (by simpa using hs)];exact uR
theorem rU {x:Int×Int}{o:Sk}(hk:o.ok):o.all.Perm (Lh.node x o).pop.all:=by
 by_cases hs:o.some=true
 ·rw [wZ hs];exact (EB hk hs).1
 ·have hs':o.some=false:=by simpa using hs
  rw [kV hs',Ck hs'];exact List.Perm.refl _
theorem Lh.oL {h:Lh}(hz:h.size=0):h=.nil:=by
 cases h with
 | nil=>rfl
 | node x o=>simp only [Lh.size]at hz;omega
structure Lh.good (h:Lh):Prop where
 ok:h.ok
 fit:fits h.all
theorem jQ {a b:Lh}(ha:a.good)(hb:b.good):(bI a b).good:=⟨gm _ _ ha.ok hb.ok,(ha.fit.join hb.fit).perm (bP a b).symm⟩
theorem kL {a:Lh}{x:Int×Int}(ha:a.good)(h:iw x.1∧iw x.2):(a.insert x).good:=⟨gF x ha.ok,(fits.more h ha.fit).perm (bD a x).symm⟩
theorem kT {l:List (Int×Int)}(h:fits l):(fG l).good:=⟨qd l,h.perm (fJ l).symm⟩
theorem jE {a:Lh}(ha:a.good):a.pop.good:=⟨nP ha.ok,by
 cases a with
 | nil=>exact fits.nil
 | node x o=>exact (ha.fit.cons.2:fits o.all).perm (rU ha.ok.1)⟩
theorem rq (a b:Lh):dw (bI a b).all=dw (a.all++b.all):=bX (bP a b)
theorem nJ (a:Lh)(x:Int×Int):dw (a.insert x).all=dw (x::a.all):=bX (bD a x)
theorem nD (l:List (Int×Int)):dw (fG l).all=dw l:=bX (fJ l)
theorem jK {h:Lh}(hk:h.ok)(hne:h.min.2=true):dw h.all=h.min.1::dw h.pop.all:=by
 cases h with
 | nil=>cases hne
 | node x o =>
  show dw (x::o.all)=x::dw _;rw [pU hk.2,bX (rU (x:=x) hk.1)]
theorem kS {a:Lh}(h:a.ok):dw a.pop.all=(dw a.all).tail:=by
 cases a with
 | nil=>show dw []=(dw []).tail;simp [kr]
 | node x o=>rw [jK h rfl];rfl
theorem jX (t:Lh):t.min.2=t.some:=rfl
end Go.Proofs.YtmeodbjlmjpnbaaGreat.Sk.Ro
namespace Go.Proofs.YtmeodbjlmjpnbaaGreat.Sk.Ro
open Go.Sort Go.RowKit
end Go.Proofs.YtmeodbjlmjpnbaaGreat.Sk.Ro
namespace Go.Proofs.YtmeodbjlmjpnbaaGreat.Sk.Ro
open Go.Sort Go.RowKit
theorem alloc_old {w:World}{k:Nat}(o:Obj)(h:k<w.heap.size):(w.alloc o).heap[k]?=w.heap[k]?:=((Below.refl w.heap.size w).alloc (Nat.le_refl _) o).block k h
theorem aH {W:World}{b k:Nat}(j:Nat)(v:Value)(h:k≠b):(W.setCell ⟨b,j,none⟩ v).heap[k]?=W.heap[k]?:=Below.heap_setCell W ⟨b,j,none⟩ v k h
def au (t:TypeId):Prop:=Hp.au t∨t=249
abbrev Kp (W W':World):Prop:=bO au W W'
theorem ax:¬au 89 := by unfold au Hp.au dV;decide
theorem iN:¬au 29 := by unfold au Hp.au dV;decide
theorem aj:¬au 122 := by unfold au Hp.au dV;decide
def bB (x:Int×Int)(q:Hp.HP):Obj := .cells #[.int .i64 x.1,.int .i64 x.2,.pointer q.q,.int .i64 q.n] 249 (0,0)
def aA (W:World):Lh→Option Addr→Prop
 | .nil,p=>p=none
 | .node x o,p => ∃(b:Nat) (q:Hp.HP),p=some ⟨b,0,none⟩∧W.heap[b]?=some (bB x q)∧Hp.aA W o q
abbrev hp (p:Option Addr):Value := .agg #[.pointer p]
section
variable {W W':World}{mo:Option Nat}{c m:Int}
theorem Kp.sk (h:Kp W W'):Hp.Kp W W':=fun k cs t ht e=>h k cs t (.inl ht) e
theorem aA.fQ {t:Lh}{p:Option Addr}(hn:aA W t p)(h:Kp W W')(hs:W.heap.size≤W'.heap.size):aA W' t p:=by
 cases t with
 | nil=>exact hn
 | node x o=>obtain ⟨b,q,e,hb,hk⟩:=hn;exact ⟨b,q,e,h _ _ _ (.inr rfl) hb,Hp.aA.fQ hk h.sk hs⟩
theorem aA.stay {t:Lh}{p:Option Addr}(hn:aA W t p)(h:Below W.heap.size W W'):aA W' t p:=hn.fQ (bO.below h) h.size
theorem aA.bt {t:Lh}{p:Option Addr}(h:aA W t p)(hb:Bt mo W W')(hm:aW W mo c m):aA W' t p:=h.fQ (hb.oG hm ax) hb.size
theorem aA.none (w:World):aA w .nil Option.none:=rfl
theorem vg (W:World)(a:Addr)(u:Value):(W.setCell a u).heap.size=W.heap.size:=by simp [World.setCell]
theorem aA.wrote {t:Lh}{p:Option Addr}(hn:aA W t p){g:Nat}{cs:Array Value}{ty:TypeId}{z:Nat×Nat}(hg:W.heap[g]?=some (.cells cs ty z))(ht:¬au ty)(off:Nat)(u:Value):aA (W.setCell ⟨g,off,Option.none⟩ u) t p :=
 hn.fQ (bO.set hg ht off u) (by rw [vg];exact Nat.le_refl _)
theorem aA.small {t:Lh}{p:Option Addr}(hn:aA W t p):t.size≤268435456:=by
 cases t with
 | nil=>exact Nat.zero_le _
 | node x o=>obtain ⟨b,q, -, -,hk⟩:=hn;have:=hk.small;simp only [Lh.size];omega
structure Four (W:World)(b:Nat)(x:Int×Int)(q:Hp.HP):Prop where
 c0:W.cell? ⟨b,0,none⟩=some (.int .i64 x.1)
 c1:W.cell? ⟨b,1,none⟩=some (.int .i64 x.2)
 c2:W.cell? ⟨b,2,none⟩=some (.pointer q.q)
 c3:W.cell? ⟨b,3,none⟩=some (.int .i64 q.n)
theorem four {b:Nat}{x:Int×Int}{q:Hp.HP}(h:W.heap[b]?=some (bB x q)):Four W b x q:=by
 constructor<;>simp [World.cell?,h,bB]
theorem rT {b:Nat}{x:Int×Int}{q:Hp.HP}(h:W.heap[b]?=some (bB x q))(hk:Kp W W'):Four W' b x q:=four (hk b _ _ (.inr rfl) h)
def bJ (W:World)(b:Nat)(p:Option Addr):Prop:=W.heap[b]?=some (.cells #[.pointer p] 122 (0,0))
theorem bJ.bt {b:Nat}{p:Option Addr}(h:bJ W b p)(hb:Bt mo W W')(hm:aW W mo c m):bJ W' b p:=hb.row hm h (by decide)
theorem bJ.c0 {b:Nat}{p:Option Addr}(h:bJ W b p):W.cell? ⟨b,0,none⟩=some (.pointer p):=by unfold bJ at h;simp [World.cell?,h]
theorem bJ.z0 {b:Nat}{p:Option Addr}(h:bJ W b p):W.frozen? ⟨b,0,none⟩=false:=by unfold bJ at h;simp [World.frozen?,h]
theorem bJ.put {b:Nat}{p:Option Addr}(h:bJ W b p)(q:Option Addr):bJ (W.setCell ⟨b,0,none⟩ (.pointer q)) b q:=heap_put (j:=0) h _
theorem bJ.set {b':Nat}{p:Option Addr}(h:bJ W b' p){b:Nat}(hne:b'≠b)(off:Nat)(u:Value):bJ (W.setCell ⟨b,off,none⟩ u) b' p:=(aH _ _ hne).trans h
end
def bU (mo:Option Nat)(c m:Int)(t:Lh)(w:World)(e:Ending)(w':World):Prop:=∃p,e=.returned (hp p)∧aA w' t p∧aW w' mo c m∧Bt mo w w'
end Go.Proofs.YtmeodbjlmjpnbaaGreat.Sk.Ro
namespace Go.Proofs.YtmeodbjlmjpnbaaGreat.Sk.Ro
open Go.Sort Go.RowKit
def cZ (W:World)(b:Nat)(x:Int×Int):Prop:=W.heap[b]?=some (.cells #[.int .i64 x.1,.int .i64 x.2] 29 (0,0))
section
variable {W W':World}{mo:Option Nat}{c m:Int}
theorem cZ.bt {b:Nat}{x:Int×Int}(h:cZ W b x)(hb:Bt mo W W')(hm:aW W mo c m):cZ W' b x:=hb.row hm h (by decide)
theorem cZ.c0 {b:Nat}{x:Int×Int}(h:cZ W b x):W.cell? ⟨b,0,none⟩=some (.int .i64 x.1):=by unfold cZ at h;simp [World.cell?,h]
theorem cZ.c1 {b:Nat}{x:Int×Int}(h:cZ W b x):W.cell? ⟨b,1,none⟩=some (.int .i64 x.2):=by unfold cZ at h;simp [World.cell?,h]
theorem cZ.z0 {b:Nat}{x:Int×Int}(h:cZ W b x):W.frozen? ⟨b,0,none⟩=false:=by unfold cZ at h;simp [World.frozen?,h]
theorem cZ.z1 {b:Nat}{x:Int×Int}(h:cZ W b x):W.frozen? ⟨b,1,none⟩=false:=by unfold cZ at h;simp [World.frozen?,h]
theorem cZ.new (W:World)(x1 x2:Int){n:Nat}(h:n=W.heap.size):cZ (W.alloc (.cells #[.int .i64 x1,.int .i64 x2] 29)) n (x1,x2):=aJ h
theorem cZ.lt {b:Nat}{x:Int×Int}(h:cZ W b x):b<W.heap.size:=lt_of_heap h
theorem cZ.put {b:Nat}{x:Int×Int}(h:cZ W b x)(y1 y2:Int):cZ ((W.setCell ⟨b,0,none⟩ (.int .i64 y1)).setCell ⟨b,1,none⟩ (.int .i64 y2)) b (y1,y2):=heap_put (j:=1) (heap_put (j:=0) h _) _
theorem cZ.alloc {b:Nat}{x:Int×Int}(h:cZ W b x)(o:Obj):cZ (W.alloc o) b x:=(alloc_old o (lt_of_heap h)).trans h
theorem cZ.stay {b:Nat}{x:Int×Int}(h:cZ W b x)(hb:Below W.heap.size W W'):cZ W' b x:=(hb.block _ (lt_of_heap h)).trans h
theorem cZ.aside {b g:Nat}{x:Int×Int}(h:cZ W b x)(hne:b≠g)(u v:Value):cZ ((W.setCell ⟨g,0,none⟩ u).setCell ⟨g,1,none⟩ v) b x:=(aH _ _ hne).trans ((aH _ _ hne).trans h)
end
theorem eF (t:Lh)(p:Option Addr)(w:World)(h:aA w t p):Calls Tryz.prog 370 #[hp p] w fun e w'=>e=.returned (.int .i64 (t.size:Nat))∧Below w.heap.size w w':=by
 have hb1:Below w.heap.size w (w.alloc (.cells #[.pointer p] 122)):=bG _
 cases t with
 | nil =>
  obtain rfl:=h;go_enter Tryz.func370,Tryz.ntmps370
  go_wp2_with fail
  go_ret
  exact ⟨rfl,hb1⟩
 | node x o =>
  obtain ⟨b,q,rfl,hb,ho⟩:=h;have hk:=rT hb (bO.below hb1);have c2:=hk.c2;have c3:=hk.c3;have hsm:=ho.small;have H:=hdz (af (ho.stay hb1) hb1);obtain ⟨s,hs⟩:=aU (o.size);have HS:=hdz hs;have w1:IntKind.i64.wrap (1+(s:Int))=1+(s:Int):=by rw [IntKind.wrap_i64];omega
  simp only [Lh.size];clear hk hb ho hb1 hsm hs;go_enter Tryz.func370,Tryz.ntmps370
  go_wp2_with fail
  ((with_reducible refine (Hp.eF o q _ H.out.1).mono ?_);rintro e w2 ⟨rfl,hb2⟩);rw [←HS.out];have Y:=hdz (H.out.2.trans (hb2.mono H.out.2.size));clear hb2 c2 c3;go_wp2_with fail
  go_ret
  refine ⟨?_,Y.out⟩;have e9:((o.size+1:Nat):Int)=1+(s:Int):=by rw [HS.out];omega
  rw [e9];first|rfl|(show Ending.returned (.int .i64 (IntKind.i64.wrap (1+(s:Int))))=_;rw [w1])|(show Ending.returned (.int .i64 (1+(s:Int)))=_;rfl)
abbrev fH (t:Lh):Value := .tuple #[el t.min.1,.bool t.min.2]
theorem iX (t:Lh)(p:Option Addr)(m:Value)(w:World)(h:aA w t p):Calls Tryz.prog 368 #[hp p,m] w fun e w'=>e=.returned (fH t)∧Below w.heap.size w w':=by
 cases t with
 | nil =>
  obtain rfl:=h;go_enter Tryz.func368,Tryz.ntmps368
  go_wp2
  refine bodyPost_ret (v:=fH .nil) (by simp [results,Tryz.results368,go_sem,Lh.min]) rfl ⟨rfl,?_⟩;exact ((Below.refl w.heap.size w).alloc (Nat.le_refl _) _).alloc (by simp) _
 | node x o =>
  obtain ⟨b,q,rfl,hb, -⟩:=h;obtain ⟨x1,x2⟩:=x;have hk:=rT (W':=(w.alloc (.cells #[.pointer (some ⟨b,0,none⟩)] 122)).alloc (.cells #[.int .i64 0,.int .i64 0] 29)) hb (bO.below ((bG _).alloc (by simp) _));have c0:=hk.c0;have c1:=hk.c1;clear hk hb;go_enter Tryz.func368,Tryz.ntmps368
  go_wp2
  refine bodyPost_ret (v:=fH (.node (x1,x2) o)) (by simp [results,Tryz.results368,go_sem,Lh.min]) rfl ⟨rfl,?_⟩;exact ((Below.refl w.heap.size w).alloc (Nat.le_refl _) _).alloc (by simp) _
theorem gX (mo:Option Nat)(c m:Int)(x1 x2:Int)(o:Sk)(q:Hp.HP)(w:World)(hm:aW w mo c m)(h2:0≤m)(h3:m<4611686018427387904)(hk:Hp.aA w o q) :
  Calls Tryz.prog 121 #[aF mo,.agg #[.int .i64 x1,.int .i64 x2,.pointer q.q,.int .i64 q.n]] w (bU mo c (m+1) (.node (x1,x2) o) w):=by
 have hb1:Below w.heap.size w ((w.alloc (bB (x1,x2) q)).alloc (.cells #[.pointer none] 122)):=(bG _).alloc (by simp) _;have e1:((w.alloc (bB (x1,x2) q)).alloc (.cells #[.pointer none] 122)).heap[w.heap.size]?=some (bB (x1,x2) q):=(alloc_old _ (by simp)).trans (aJ rfl);have e2:((w.alloc (bB (x1,x2) q)).alloc (.cells #[.pointer none] 122)).heap[w.heap.size+1]?=some (.cells #[.pointer none] 122 (0,0)):=aJ (by simp);have K1:dL au mo w c m ((w.alloc (bB (x1,x2) q)).alloc (.cells #[.pointer none] 122)):=(dL.refl hm).stay hb1;have HX:=hdz (af K1 (af e1 (af e2 hk)));clear hb1 e1 e2 K1 hk hm;unfold bB at HX;go_enter Tryz.func121,Tryz.ntmps121
 go_wp2_with fail
 generalize (w.alloc _).alloc (.cells #[.pointer none] 122)=w1 at *;obtain ⟨a,ha⟩:=aU (w.heap.size);rw [←ha]at HX ⊢;have HA:=hdz ha;clear ha;((with_reducible refine (mZ mo c m _ HX.out.1.mt h2 h3).mono ?_);rintro e w2 ⟨rfl,hm2,hb2⟩);have K2:=HX.out.1.turn hm2 hb2 ax;have R2:=hb2.row HX.out.1.mt HX.out.2.2.1 (by decide);have N2:=hb2.row HX.out.1.mt HX.out.2.1 (by decide);have r0:w2.cell? ⟨a+1,0,none⟩=some (.pointer none):=by simp [World.cell?,R2]
 have z0:w2.frozen? ⟨a+1,0,none⟩=false:=by simp [World.frozen?,R2]
 have Y:=hdz (af K2 (af R2 N2));clear hm2 hb2 K2 R2 N2;go_wp2_with fail
 have hk:=(Y.out.1.put Y.out.2.1 aj (by decide) (by rw [←HA.out];omega) 0 (.pointer (some ⟨a,0,none⟩)));refine bodyPost_ret (v:=hp (some ⟨a,0,none⟩)) (by simp [results,Tryz.results121,go_sem,r0]) rfl ⟨_,rfl,?_,hk.mt,hk.bt⟩;refine ⟨a,q,rfl,?_,Hp.aA.fQ HX.out.2.2.2 (Kp.sk hk.kp) hk.bt.size⟩;rw [aH _ _ (by omega),Y.out.2.2];rfl
theorem Af {mo:Option Nat}{w W:World}{c m:Int}{b:Nat}{cs:Array Value}{t:TypeId}{z:Nat×Nat}(k:dL au mo w c m W)(h:W.heap[b]?=some (.cells cs t z))(ht:¬au t)(hmt:t≠89)(hw:w.heap.size≤b)(u v:Value):dL au mo w c m ((W.setCell ⟨b,0,none⟩ u).setCell ⟨b,1,none⟩ v) :=
 (k.put h ht hmt hw 0 u).put (heap_put (j:=0) h u) ht hmt hw 1 v
def win (x y:Int×Int):Int×Int:=if dH y x=true then y else x
def lose (x y:Int×Int):Int×Int:=if dH y x=true then x else y
theorem Fb (w:World)(o1 o2 o3 o4:Obj):Below w.heap.size w ((((w.alloc o1).alloc o2).alloc o3).alloc o4):=(((bG _).alloc (by simp) _).alloc (by simp;omega) _).alloc (by simp;omega) _
theorem zb (mo:Option Nat)(c m:Int)(x1 x2 y1 y2:Int)(w:World)(hm:aW w mo c m)(h0:0≤c)(h1:c<4611686018427387904) :
  Calls Tryz.prog 122 #[aF mo,.agg #[.int .i64 x1,.int .i64 x2],.agg #[.int .i64 y1,.int .i64 y2]] w fun e w'=>e=.returned (.tuple #[el (win (x1,x2) (y1,y2)),el (lose (x1,x2) (y1,y2))])∧aW w' mo (c+1) m∧Bt mo w w':=by
 obtain ⟨w1,hw1⟩:=aU ((((w.alloc (.cells #[.int .i64 x1,.int .i64 x2] 29)).alloc (.cells #[.int .i64 y1,.int .i64 y2] 29)).alloc (.cells #[.int .i64 0,.int .i64 0] 29)).alloc (.cells #[.int .i64 0,.int .i64 0] 29));have e1:cZ w1 w.heap.size (x1,x2):=by rw [hw1];exact (((cZ.new w x1 x2 rfl).alloc _).alloc _).alloc _
 have e2:cZ w1 (w.heap.size+1) (y1,y2):=by rw [hw1];exact ((cZ.new _ y1 y2 (by simp)).alloc _).alloc _
 have e3:cZ w1 (w.heap.size+1+1) (0,0):=by rw [hw1];exact (cZ.new _ 0 0 (by simp)).alloc _
 have e4:cZ w1 (w.heap.size+1+1+1) (0,0):=by rw [hw1];exact cZ.new _ 0 0 (by simp)
 have K1:dL au mo w c m w1:=(dL.refl hm).stay (by rw [hw1];exact Fb w _ _ _ _);have HX:=hdz (af K1 (af e1 (af e2 (af e3 e4))));have f1:=e1.c0;have f2:=e1.c1;have f3:=e2.c0;have f4:=e2.c1;have HW:=hdz hw1;clear K1 e1 e2 e3 e4 hm hw1;go_enter Tryz.func122,Tryz.ntmps122
 go_wp2_with fail
 rw [←HW.out];obtain ⟨a,ha⟩:=aU (w.heap.size);rw [←ha]at HX f1 f2 f3 f4 ⊢;have HA:=hdz ha;clear ha HW;((with_reducible refine (lM mo c m (y1,y2) (x1,x2) _ HX.out.1.mt h0 h1).mono ?_);rintro e w2 ⟨rfl,hm2,hb2⟩);have E1:=HX.out.2.1.bt hb2 HX.out.1.mt;have E2:=HX.out.2.2.1.bt hb2 HX.out.1.mt;have E3:=HX.out.2.2.2.1.bt hb2 HX.out.1.mt;have E4:=HX.out.2.2.2.2.bt hb2 HX.out.1.mt;have K2:=HX.out.1.turn hm2 hb2 ax;have c1:=E1.c0;have c2:=E1.c1;have c3:=E2.c0;have c4:=E2.c1;have c5:=E3.c0;have c6:=E3.c1;have c7:=E4.c0;have c8:=E4.c1;have z5:=E3.z0;have z6:=E3.z1;have z7:=E4.z0;have z8:=E4.z1;have n1:¬a+1+1=a+1+1+1:=by omega
 have n2:¬a+1+1+1=a+1+1:=by omega
 have n3:¬a=a+1+1:=by omega
 have n4:¬a+1+1=a:=by omega
 have n5:¬a=a+1+1+1:=by omega
 have n6:¬a+1+1+1=a:=by omega
 have n7:¬a+1=a+1+1:=by omega
 have n8:¬a+1+1=a+1:=by omega
 have n9:¬a+1=a+1+1+1:=by omega
 have n0:¬a+1+1+1=a+1:=by omega
 have Y:=hdz (af K2 (af E3 E4));clear hm2 hb2 E1 E2 E3 E4 K2 f1 f2 f3 f4
 have fin:∀u1 u2 v1 v2:Int,dL au mo w (c+1) m ((((w2.setCell ⟨a+1+1,0,none⟩ (.int .i64 u1)).setCell ⟨a+1+1,1,none⟩ (.int .i64 u2)).setCell ⟨a+1+1+1,0,none⟩ (.int .i64 v1)).setCell ⟨a+1+1+1,1,none⟩ (.int .i64 v2)) ∧
   cZ ((((w2.setCell ⟨a+1+1,0,none⟩ (.int .i64 u1)).setCell ⟨a+1+1,1,none⟩ (.int .i64 u2)).setCell ⟨a+1+1+1,0,none⟩ (.int .i64 v1)).setCell ⟨a+1+1+1,1,none⟩ (.int .i64 v2)) (a+1+1) (u1,u2) ∧
   cZ ((((w2.setCell ⟨a+1+1,0,none⟩ (.int .i64 u1)).setCell ⟨a+1+1,1,none⟩ (.int .i64 u2)).setCell ⟨a+1+1+1,0,none⟩ (.int .i64 v1)).setCell ⟨a+1+1+1,1,none⟩ (.int .i64 v2)) (a+1+1+1) (v1,v2):=fun u1 u2 v1 v2=>by
  have g4:=Y.out.2.2.aside (g:=a+1+1) (by omega) (.int .i64 u1) (.int .i64 u2);have k1:=Af Y.out.1 Y.out.2.1 iN (by decide) (by rw [←HA.out];omega) (.int .i64 u1) (.int .i64 u2);exact ⟨Af k1 g4 iN (by decide) (by rw [←HA.out];omega) (.int .i64 v1) (.int .i64 v2),(Y.out.2.1.put u1 u2).aside (by omega) _ _,g4.put v1 v2⟩
 have FIN:=hdz fin;clear fin;by_cases hv:dH (y1,y2) (x1,x2)=true
 ·have HWL:=hdz (show win (x1,x2) (y1,y2)=(y1,y2)∧lose (x1,x2) (y1,y2)=(x1,x2) from ⟨if_pos hv,if_pos hv⟩);rw [hv];clear hv;go_wp2_with fail
  go_region_held3 (fun w'=>w'.cell? ⟨a,0,none⟩=some (.int .i64 x1)∧w'.cell? ⟨a,1,none⟩=some (.int .i64 x2)∧w'.cell? ⟨a+1,0,none⟩=some (.int .i64 y1)∧w'.cell? ⟨a+1,1,none⟩=some (.int .i64 y2)) (go_keep) (fail)
  all_goals
   go_wp2_with fail
   have F:=FIN.out y1 y2 x1 x2;exact bodyPost_ret (v := .tuple #[el (y1,y2),el (x1,x2)]) (by simp [results,Tryz.results122,go_sem,F.2.1.c0,F.2.1.c1,F.2.2.c0,F.2.2.c1]) rfl ⟨by rw [HWL.out.1,HWL.out.2],F.1.drew.mt,F.1.drew.bt⟩
 ·have hv':dH (y1,y2) (x1,x2)=false:=by simpa using hv
  have HWL:=hdz (show win (x1,x2) (y1,y2)=(x1,x2)∧lose (x1,x2) (y1,y2)=(y1,y2) from ⟨if_neg hv,if_neg hv⟩);rw [hv'];clear hv hv';go_wp2_with fail
  go_region_held3 (fun w'=>w'.cell? ⟨a,0,none⟩=some (.int .i64 x1)∧w'.cell? ⟨a,1,none⟩=some (.int .i64 x2)∧w'.cell? ⟨a+1,0,none⟩=some (.int .i64 y1)∧w'.cell? ⟨a+1,1,none⟩=some (.int .i64 y2)) (go_keep) (fail)
  all_goals
   go_wp2_with fail
   have F:=FIN.out x1 x2 y1 y2;exact bodyPost_ret (v := .tuple #[el (x1,x2),el (y1,y2)]) (by simp [results,Tryz.results122,go_sem,F.2.1.c0,F.2.1.c1,F.2.2.c0,F.2.2.c1]) rfl ⟨by rw [HWL.out.1,HWL.out.2],F.1.drew.mt,F.1.drew.bt⟩
end Go.Proofs.YtmeodbjlmjpnbaaGreat.Sk.Ro
namespace Go.Proofs.YtmeodbjlmjpnbaaGreat.Sk.Ro
open Go.Sort Go.RowKit
theorem uz {W:World}{g b:Nat}{cur cur':Array Value}{e e':TypeId}{z z':Nat×Nat}(hg:W.heap[g]?=some (.cells cur e z))(hb:W.heap[b]?=some (.cells cur' e' z'))(hne:e≠e'):¬g=b:=by
 rintro rfl;rw [hg]at hb
 cases hb
 exact hne rfl
theorem j6 {P:Program}{c:Code}{a:Act}{w:World}{Q:Exit→Act→World→Prop}(R:Act→Act→World→Prop)(h1:c.wp P (fun e a' w'=>e=.normal∧R a a' w') a w)(h2:∀a' w',R a a' w'→Q .normal a' w'):c.wp P Q a w :=
 Code.wp_mono (fun e a' w' h=>by obtain ⟨rfl,hr⟩:=h;exact h2 a' w' hr) h1
def iZ (W:World)(b:Nat)(q:Hp.HP):Prop:=W.heap[b]?=some (.cells #[.pointer q.q,.int .i64 q.n] 117 (0,0))
section
variable {W W':World}{b:Nat}{q:Hp.HP}{mo:Option Nat}{c m:Int}
theorem iZ.bt (h:iZ W b q)(hb:Bt mo W W')(hm:aW W mo c m):iZ W' b q:=hb.row hm h (by decide)
theorem iZ.c0 (h:iZ W b q):W.cell? ⟨b,0,none⟩=some (.pointer q.q):=by unfold iZ at h;simp [World.cell?,h]
theorem iZ.c1 (h:iZ W b q):W.cell? ⟨b,1,none⟩=some (.int .i64 q.n):=by unfold iZ at h;simp [World.cell?,h]
theorem iZ.z0 (h:iZ W b q):W.frozen? ⟨b,0,none⟩=false:=by unfold iZ at h;simp [World.frozen?,h]
theorem iZ.z1 (h:iZ W b q):W.frozen? ⟨b,1,none⟩=false:=by unfold iZ at h;simp [World.frozen?,h]
theorem iZ.lt (h:iZ W b q):b<W.heap.size:=lt_of_heap h
theorem iZ.alloc (h:iZ W b q)(o:Obj):iZ (W.alloc o) b q:=(alloc_old o (lt_of_heap h)).trans h
theorem iZ.aside {g:Nat}(h:iZ W b q)(hne:b≠g)(u v:Value):iZ ((W.setCell ⟨g,0,none⟩ u).setCell ⟨g,1,none⟩ v) b q:=(aH _ _ hne).trans ((aH _ _ hne).trans h)
theorem iZ.put (h:iZ W b q)(r:Hp.HP):iZ ((W.setCell ⟨b,0,none⟩ (.pointer r.q)).setCell ⟨b,1,none⟩ (.int .i64 r.n)) b r:=heap_put (j:=1) (heap_put (j:=0) h _) _
end
structure rA (mo:Option Nat)(w1:World)(c m:Int)(o7 o8:Option (Nat×(Int×Int)))(o9:Option (Nat×Hp.HP))(W:World):Prop where
 bt:Bt mo w1 W
 mt:aW W mo c m
 v7:∀b y,o7=some (b,y)→cZ W b y∧w1.heap.size≤b
 v8:∀b y,o8=some (b,y)→cZ W b y∧w1.heap.size≤b
 v9:∀b y,o9=some (b,y)→iZ W b y∧w1.heap.size≤b
 ne:∀b y b' y',o7=some (b,y)→o8=some (b',y')→b≠b'
section
variable {mo:Option Nat}{w1 W W':World}{c m c' m':Int}{o7 o8:Option (Nat×(Int×Int))}{o9:Option (Nat×Hp.HP)}
theorem rA.refl (hm:aW W mo c m):rA mo W c m none none none W:=⟨Bt.refl _ _,hm,fun _ _ e=>by (cases e),fun _ _ e=>by (cases e),fun _ _ e=>by (cases e),fun _ _ _ _ e=>by (cases e)⟩
theorem rA.turn (h:rA mo w1 c m o7 o8 o9 W)(hm:aW W' mo c' m')(hb:Bt mo W W'):rA mo w1 c' m' o7 o8 o9 W' :=
 ⟨h.bt.trans hb,hm,fun b y e=>⟨(h.v7 b y e).1.bt hb h.mt,(h.v7 b y e).2⟩,fun b y e=>⟨(h.v8 b y e).1.bt hb h.mt,(h.v8 b y e).2⟩,fun b y e=>⟨(h.v9 b y e).1.bt hb h.mt,(h.v9 b y e).2⟩,h.ne⟩
theorem rA.drew (h:rA mo w1 c m o7 o8 o9 W):rA mo w1 c m o7 o8 o9 W.drew:=h.turn h.mt.drew ((Bt.refl _ _).drew)
theorem rA.Fs (h:rA mo w1 c m none o8 o9 W):rA mo w1 c m (some (W.heap.size,(0,0))) o8 o9 (W.alloc (.cells #[.int .i64 0,.int .i64 0] 29)) :=
 ⟨h.bt.alloc _,h.mt.alloc _,fun b y e=>by cases e;exact ⟨cZ.new W 0 0 rfl,h.bt.size⟩,fun b y e=>⟨(h.v8 b y e).1.alloc _,(h.v8 b y e).2⟩,fun b y e=>⟨(h.v9 b y e).1.alloc _,(h.v9 b y e).2⟩,fun b y b' y' e e'=>by cases e;have:=(h.v8 b' y' e').1.lt;omega⟩
theorem rA.Fq (h:rA mo w1 c m o7 none o9 W):rA mo w1 c m o7 (some (W.heap.size,(0,0))) o9 (W.alloc (.cells #[.int .i64 0,.int .i64 0] 29)) :=
 ⟨h.bt.alloc _,h.mt.alloc _,fun b y e=>⟨(h.v7 b y e).1.alloc _,(h.v7 b y e).2⟩,fun b y e=>by cases e;exact ⟨cZ.new W 0 0 rfl,h.bt.size⟩,fun b y e=>⟨(h.v9 b y e).1.alloc _,(h.v9 b y e).2⟩,fun b y b' y' e e'=>by cases e';have:=(h.v7 b y e).1.lt;omega⟩
theorem rA.Ik (h:rA mo w1 c m o7 o8 none W):rA mo w1 c m o7 o8 (some (W.heap.size,⟨none,0⟩)) (W.alloc (.cells #[.pointer none,.int .i64 0] 117)) :=
 ⟨h.bt.alloc _,h.mt.alloc _,fun b y e=>⟨(h.v7 b y e).1.alloc _,(h.v7 b y e).2⟩,fun b y e=>⟨(h.v8 b y e).1.alloc _,(h.v8 b y e).2⟩,fun b y e=>by cases e;exact ⟨aJ rfl,h.bt.size⟩,h.ne⟩
theorem rA.Ig (h:rA mo w1 c m none o8 o9 W)(u1 u2:Int):rA mo w1 c m (some (W.heap.size,(u1,u2))) o8 o9 (W.alloc (.cells #[.int .i64 u1,.int .i64 u2] 29)) :=
 ⟨h.bt.alloc _,h.mt.alloc _,fun b y e=>by cases e;exact ⟨cZ.new W u1 u2 rfl,h.bt.size⟩,fun b y e=>⟨(h.v8 b y e).1.alloc _,(h.v8 b y e).2⟩,fun b y e=>⟨(h.v9 b y e).1.alloc _,(h.v9 b y e).2⟩,fun b y b' y' e e'=>by cases e;have:=(h.v8 b' y' e').1.lt;omega⟩
theorem rA.Ij (h:rA mo w1 c m o7 o8 none W)(q:Hp.HP):rA mo w1 c m o7 o8 (some (W.heap.size,q)) (W.alloc (.cells #[.pointer q.q,.int .i64 q.n] 117)) :=
 ⟨h.bt.alloc _,h.mt.alloc _,fun b y e=>⟨(h.v7 b y e).1.alloc _,(h.v7 b y e).2⟩,fun b y e=>⟨(h.v8 b y e).1.alloc _,(h.v8 b y e).2⟩,fun b y e=>by cases e;exact ⟨aJ rfl,h.bt.size⟩,h.ne⟩
theorem rA.D6 {b:Nat}{y:Int×Int}(h:rA mo w1 c m (some (b,y)) o8 none W)(u1 u2:Int):rA mo w1 c m (some (b,(u1,u2))) o8 none ((W.setCell ⟨b,0,none⟩ (.int .i64 u1)).setCell ⟨b,1,none⟩ (.int .i64 u2)):=by
 obtain ⟨hv,hs⟩:=h.v7 b y rfl;exact ⟨(h.bt.own hs 0 _).own hs 1 _,(h.mt.other hv (by decide) 0 _).other (heap_put (j:=0) hv _) (by decide) 1 _,fun b y e=>by cases e;exact ⟨hv.put u1 u2,hs⟩,fun b' y' e=>⟨(h.v8 b' y' e).1.aside (fun e2=>h.ne _ _ _ _ rfl e e2.symm) _ _,(h.v8 b' y' e).2⟩,fun _ _ e=>by (cases e),fun b y b' y' e e'=>by cases e;exact h.ne _ _ _ _ rfl e'⟩
theorem rA.D7 {b:Nat}{y:Int×Int}(h:rA mo w1 c m o7 (some (b,y)) none W)(u1 u2:Int):rA mo w1 c m o7 (some (b,(u1,u2))) none ((W.setCell ⟨b,0,none⟩ (.int .i64 u1)).setCell ⟨b,1,none⟩ (.int .i64 u2)):=by
 obtain ⟨hv,hs⟩:=h.v8 b y rfl;exact ⟨(h.bt.own hs 0 _).own hs 1 _,(h.mt.other hv (by decide) 0 _).other (heap_put (j:=0) hv _) (by decide) 1 _,fun b' y' e=>⟨(h.v7 b' y' e).1.aside (h.ne _ _ _ _ e rfl) _ _,(h.v7 b' y' e).2⟩,fun b y e=>by cases e;exact ⟨hv.put u1 u2,hs⟩,fun _ _ e=>by (cases e),fun b y b' y' e e'=>by cases e';exact h.ne _ _ _ _ e rfl⟩
theorem rA.Il {b:Nat}{y:Hp.HP}(h:rA mo w1 c m o7 o8 (some (b,y)) W)(r:Hp.HP):rA mo w1 c m o7 o8 (some (b,r)) ((W.setCell ⟨b,0,none⟩ (.pointer r.q)).setCell ⟨b,1,none⟩ (.int .i64 r.n)):=by
 obtain ⟨hv,hs⟩:=h.v9 b y rfl
 have ne:∀{b':Nat} {y':Int×Int},cZ W b' y'→b'≠b:=fun {b'} {y'} he e=>by
  subst e;have h1:W.heap[b']?=_:=he;rw [show W.heap[b']?=_ from hv]at h1;injection h1 with h1
  injection h1 with _ h1
  exact absurd h1 (by decide)
 exact ⟨(h.bt.own hs 0 _).own hs 1 _,(h.mt.other hv (by decide) 0 _).other (heap_put (j:=0) hv _) (by decide) 1 _,fun b' y' e=>⟨(h.v7 b' y' e).1.aside (ne (h.v7 b' y' e).1) _ _,(h.v7 b' y' e).2⟩,fun b' y' e=>⟨(h.v8 b' y' e).1.aside (ne (h.v8 b' y' e).1) _ _,(h.v8 b' y' e).2⟩,fun b y e=>by cases e;exact ⟨hv.put r,hs⟩,h.ne⟩
end
theorem lZ (mo:Option Nat)(c m:Int)(x1 x2 y1 y2 v1 v2 l1 l2:Int)(hv:(v1,v2)=win (x1,x2) (y1,y2))(hl:(l1,l2)=lose (x1,x2) (y1,y2))(w:World)(hm:aW w mo c m)(h0:0≤c)(h1:c<4611686018427387904) :
  Calls Tryz.prog 122 #[aF mo,.agg #[.int .i64 x1,.int .i64 x2],.agg #[.int .i64 y1,.int .i64 y2]] w fun e w'=>e=.returned (.tuple #[.agg #[.int .i64 v1,.int .i64 v2],.agg #[.int .i64 l1,.int .i64 l2]])∧aW w' mo (c+1) m∧Bt mo w w' :=
 (zb mo c m x1 x2 y1 y2 w hm h0 h1).mono fun _ _ ⟨he,h2⟩=>⟨by rw [he,←hv,←hl],h2⟩
theorem BO (r x:Int×Int)(o:Sk):(Lh.node r o).insert x=.node (win r x) (o.insert (lose r x)):=by
 unfold win lose;by_cases h:dH x r=true
 ·rw [uL h,if_pos h,if_pos h]
 ·rw [vG (by simpa using h),if_neg h,if_neg h]
structure Fi (W:World)(a:Nat)(p:Option Addr)(x:Int×Int):Prop where
 h:bJ W a p
 e:cZ W (a+1) x
 r:bJ W (a+2) none
theorem Fi.new (w:World)(p:Option Addr)(x1 x2:Int):Fi (((w.alloc (.cells #[.pointer p] 122)).alloc (.cells #[.int .i64 x1,.int .i64 x2] 29)).alloc (.cells #[.pointer none] 122)) w.heap.size p (x1,x2):=by
 refine ⟨?_,?_,?_⟩
 ·show _=_;rw [alloc_old _ (by simp only [World.size_alloc];omega),alloc_old _ (by simp only [World.size_alloc];omega)];exact aJ rfl
 ·show _=_;rw [alloc_old _ (by simp only [World.size_alloc];omega)];exact aJ (by simp)
 ·exact aJ (by simp)
theorem Fi.below (w:World)(o1 o2 o3:Obj):Below w.heap.size w (((w.alloc o1).alloc o2).alloc o3):=((bG _).alloc (by simp) _).alloc (by simp only [World.size_alloc];omega) _
theorem di (mo:Option Nat)(c m:Int)(h:Lh)(x:Int×Int)(p:Option Addr)(w:World)(hs:h.size<134217728)(hm:aW w mo c m)(h0:0≤c)(h1:c<288230376151711744)(h2:0≤m)(h3:m<288230376151711744)
  (hh:aA w h p):Calls Tryz.prog 94 #[hp p,aF mo,el x] w (bU mo (c+h.iJ) (m+h.iF) (h.insert x) w):=by
 obtain ⟨x1,x2⟩:=x;obtain ⟨w1,hw1⟩:=aU (((w.alloc (.cells #[.pointer p] 122)).alloc (.cells #[.int .i64 x1,.int .i64 x2] 29)).alloc (.cells #[.pointer none] 122));have hb1:Below w.heap.size w w1:=by rw [hw1];exact Fi.below w _ _ _
 have F1:Fi w1 w.heap.size p (x1,x2):=by rw [hw1];exact Fi.new w p x1 x2
 have K1:dL au mo w c m w1:=(dL.refl hm).stay hb1;have HF:=hdz F1;have KK:=hdz K1;have HH:=hdz (show aA w1 h p from hh.stay hb1);have HN:=hdz (af hs (af h0 (af h1 (af h2 h3))));have HW:=hdz hw1;have f0:=F1.h.c0;clear hs h0 h1 h2 h3 F1 K1 hb1 hm hw1 hh
 cases h with
 | nil =>
  obtain rfl:p=none:=HH.out;have f1:=HF.out.e.c0;have f2:=HF.out.e.c1;have f3:=HF.out.r.c0;have f4:=HF.out.r.z0;go_enter Tryz.func94,Tryz.ntmps94
  go_wp2_with fail
  rw [←HW.out];obtain ⟨a,ha⟩:=aU (w.heap.size);rw [←ha]at HF f0 f1 f2 f3 f4 ⊢;have HA:=hdz ha;clear ha HW;((with_reducible refine (gX mo c m x1 x2 .nil ⟨none,0⟩ _ KK.out.mt HN.out.2.2.2.1 (by have:=HN.out;omega) (Hp.aA.nil _)).mono ?_);rintro e w2 ⟨p2,rfl,ht2,hm2,hb2⟩);have R2:=hdz (HF.out.r.bt hb2 KK.out.mt);have K2:=hdz (KK.out.turn hm2 hb2 ax);have T2:=hdz ht2;have r6:=R2.out.c0;have z6:=R2.out.z0;clear f0 f1 f2 f3 f4 ht2 hm2 hb2;go_wp2_with fail
  have hk:=K2.out.put R2.out aj (by decide) (by rw [←HA.out];omega) 0 (.pointer p2);exact bodyPost_ret (v:=hp p2) (by simp [results,Tryz.results94,go_sem,r6]) rfl ⟨_,rfl,T2.out.wrote R2.out aj 0 _,by simpa [Lh.iJ,Lh.iF] using hk.mt,hk.bt⟩
 | node r o =>
  obtain ⟨r1,r2⟩:=r;obtain ⟨b,q,rfl,hb,ho⟩:=HH.out;obtain ⟨⟨v1,v2⟩,hv⟩:=aU (win (r1,r2) (x1,x2));obtain ⟨⟨l1,l2⟩,hl⟩:=aU (lose (r1,r2) (x1,x2));have HV:=hdz (af hv hl);have HL:=hdz (af hb ho);have HO:=hdz (show o.size<134217728∧o.iJ≤2∧o.iF≤2 from ⟨by have:=HN.out.1;simp only [Lh.size]at this;omega,Go.Proofs.YtmeodbjlmjpnbaaGreat.Sk.lD o,Go.Proofs.YtmeodbjlmjpnbaaGreat.Sk.kZ o⟩);have g0:=(four hb).c0;have g1:=(four hb).c1;clear hv hl hb ho HH;go_enter Tryz.func94,Tryz.ntmps94
  go_wp2_with fail
  rw [←HW.out];obtain ⟨a,ha⟩:=aU (w.heap.size);rw [←ha]at HF f0 ⊢;have HA:=hdz ha;clear ha HW f0 g0 g1;have M1:=hdz KK.out.mt
  have HS:=hdz (fun W (hz:Bt mo w1 W)=>(show W.cell? ⟨a,0,none⟩=some (.pointer (some ⟨b,0,none⟩))∧W.cell? ⟨b,0,none⟩=some (.int .i64 r1)∧W.cell? ⟨b,1,none⟩=some (.int .i64 r2)∧W.cell? ⟨b,2,none⟩=some (.pointer q.q)∧W.cell? ⟨b,3,none⟩=some (.int .i64 q.n)∧W.cell? ⟨a+1,0,none⟩=some (.int .i64 x1)∧W.cell? ⟨a+1,1,none⟩=some (.int .i64 x2) from
   have k:=four (hz.row M1.out HL.out.1 (by decide));⟨(HF.out.h.bt hz M1.out).c0,k.c0,k.c1,k.c2,k.c3,(HF.out.e.bt hz M1.out).c0,(HF.out.e.bt hz M1.out).c1⟩))
  have XX:=hdz (rA.refl (mo:=mo) M1.out);refine j6 (R:=fun a a' w' => ∃(u17 u18 u19 u20 u21 u22 u23 u24 u16 u25 u26:Value) (b7 b8:Nat),a'=(((((((((((((a.put (some 17) u17).put (some 18) u18).put (some 19) u19).put (some 20) u20).put (some 21) u21).put (some 22) u22).put (some 23) u23).put (some 24) u24).put (some 16) u16).put (some 25) u25).put (some 26) u26).put (some 7) (.pointer (some ⟨b7,0,none⟩))).put (some 8) (.pointer (some ⟨b8,0,none⟩)))∧rA mo w1 (c+1) m (some (b7,(v1,v2))) (some (b8,(l1,l2))) none w') ?_ ?_
  ·refine wp_region_noPanic ?_;refine wp_region_held_drew (S:=fun w'=>w'.cell? ⟨a,0,none⟩=some (.pointer (some ⟨b,0,none⟩))∧w'.cell? ⟨b,0,none⟩=some (.int .i64 r1)∧w'.cell? ⟨b,1,none⟩=some (.int .i64 r2)∧w'.cell? ⟨b,2,none⟩=some (.pointer q.q)∧w'.cell? ⟨b,3,none⟩=some (.int .i64 q.n)∧w'.cell? ⟨a+1,0,none⟩=some (.int .i64 x1)∧w'.cell? ⟨a+1,1,none⟩=some (.int .i64 x2)) (by kernel_rfl) (HS.out _ XX.out.drew.bt) (fun hH=>?_);have X:=hdz XX.out.drew;generalize w1.drew=wd at *;refine tk 0 hH ?_;try simp only [aZ]
   refine tk 1 hH ?_;try simp only [aZ]
   refine tk 2 hH ?_;try simp only [aZ]
   refine tk 3 hH ?_;try simp only [aZ]
   refine tk 4 hH ?_;try simp only [aZ]
   refine tk 5 hH ?_;try simp only [aZ]
   refine tk 6 hH ?_;try simp only [aZ]
   refine wpAnyH_ready (rs:=[7,11,12]) (by as_aux_lemma=>kernel_rfl) (by simp) ?_;refine (AllReadyH.cons (o:=_) rfl (fun K hK=>?_) (AllReadyH.cons (o:=_) rfl (fun K hK=>?_) (AllReadyH.cons (o:=_) rfl (fun K hK=>?_) AllReadyH.nil)))
   ·go_simp;go_at_call 122
    ((with_reducible refine (lZ mo c m r1 r2 x1 x2 v1 v2 l1 l2 HV.out.1 HV.out.2 _ X.out.mt HN.out.2.1 (by have:=HN.out;omega)).mono ?_);rintro e wc1 ⟨rfl,Im,hb5⟩);refine hK.out _ _ ?_ (fun hH2=>?_)
    ·exact HS.out _ (X.out.turn Im hb5).bt
    have Xn:=hdz (X.out.turn Im hb5);clear hK K hH X Im hb5;have hH:=hH2;have X:=Xn;clear hH2 Xn;try simp only [aZ]
    refine tk 8 hH ?_;try simp only [aZ]
    refine tk 9 hH ?_;try simp only [aZ]
    refine tk 10 hH ?_;try simp only [aZ]
    refine uw 11 12 (fun K hK=>?_) (fun K hK=>?_)
    ·go_simp;refine hK.out _ _ ?_ (fun hH2=>?_)
     ·exact HS.out _ (X.out.Fs).bt
     have Xn:=hdz (X.out.Fs);clear hK K hH X;have hH:=hH2;have X:=Xn;clear hH2 Xn;obtain ⟨b7,Iu⟩:=aU (wc1.heap.size);rw [←Iu]at X ⊢;clear Iu;generalize wc1.alloc (.cells #[.int .i64 0,.int .i64 0] 29)=wa2 at *;try simp only [aZ]
     refine eD 12 (fun K hK=>?_);go_simp;refine hK.out _ _ ?_ (fun hH2=>?_)
     ·exact HS.out _ (X.out.Fq).bt
     have Xn:=hdz (X.out.Fq);clear hK K hH X;have hH:=hH2;have X:=Xn;clear hH2 Xn;obtain ⟨b8,IB⟩:=aU (wa2.heap.size);rw [←IB]at X ⊢;clear IB;generalize wa2.alloc (.cells #[.int .i64 0,.int .i64 0] 29)=wa3 at *;try simp only [aZ]
     have ev:=(X.out.v7 _ _ rfl).1;have ev0:=ev.c0;have ev1:=ev.c1;have ez0:=ev.z0;have ez1:=ev.z1;refine eD 13 (fun K hK=>?_);go_simp;refine hK.out _ _ ?_ (fun hH2=>?_)
     ·exact HS.out _ (X.out.D6 v1 v2).bt
     have Xn:=hdz (X.out.D6 v1 v2);clear hK K hH X ev ev0 ev1 ez0 ez1;have hH:=hH2;have X:=Xn;clear hH2 Xn;generalize (wa3.setCell ⟨b7,0,none⟩ (.int .i64 v1)).setCell ⟨b7,1,none⟩ (.int .i64 v2)=wa4 at *;try simp only [aZ]
     have ev:=(X.out.v8 _ _ rfl).1;have ev0:=ev.c0;have ev1:=ev.c1;have ez0:=ev.z0;have ez1:=ev.z1;refine eD 14 (fun K hK=>?_);go_simp;refine hK.out _ _ ?_ (fun hH2=>?_)
     ·exact HS.out _ (X.out.D7 l1 l2).bt
     have Xn:=hdz (X.out.D7 l1 l2);clear hK K hH X ev ev0 ev1 ez0 ez1;have hH:=hH2;have X:=Xn;clear hH2 Xn;generalize (wa4.setCell ⟨b8,0,none⟩ (.int .i64 l1)).setCell ⟨b8,1,none⟩ (.int .i64 l2)=wa5 at *;try simp only [aZ]
     refine dn ?_;clear hH;exact ⟨rfl,_,_,_,_,_,_,_,_,_,_,_,b7,b8,by (try simp only [aZ]);rfl,X.out⟩
    ·go_simp;refine hK.out _ _ ?_ (fun hH2=>?_)
     ·exact HS.out _ (X.out.Fq).bt
     have Xn:=hdz (X.out.Fq);clear hK K hH X;have hH:=hH2;have X:=Xn;clear hH2 Xn;obtain ⟨b8,IB⟩:=aU (wc1.heap.size);rw [←IB]at X ⊢;clear IB;generalize wc1.alloc (.cells #[.int .i64 0,.int .i64 0] 29)=wa6 at *;try simp only [aZ]
     refine eD 11 (fun K hK=>?_);go_simp;refine hK.out _ _ ?_ (fun hH2=>?_)
     ·exact HS.out _ (X.out.Fs).bt
     have Xn:=hdz (X.out.Fs);clear hK K hH X;have hH:=hH2;have X:=Xn;clear hH2 Xn;obtain ⟨b7,Iu⟩:=aU (wa6.heap.size);rw [←Iu]at X ⊢;clear Iu;generalize wa6.alloc (.cells #[.int .i64 0,.int .i64 0] 29)=wa7 at *;try simp only [aZ]
     have ev:=(X.out.v7 _ _ rfl).1;have ev0:=ev.c0;have ev1:=ev.c1;have ez0:=ev.z0;have ez1:=ev.z1;refine eD 13 (fun K hK=>?_);go_simp;refine hK.out _ _ ?_ (fun hH2=>?_)
     ·exact HS.out _ (X.out.D6 v1 v2).bt
     have Xn:=hdz (X.out.D6 v1 v2);clear hK K hH X ev ev0 ev1 ez0 ez1;have hH:=hH2;have X:=Xn;clear hH2 Xn;generalize (wa7.setCell ⟨b7,0,none⟩ (.int .i64 v1)).setCell ⟨b7,1,none⟩ (.int .i64 v2)=wa8 at *;try simp only [aZ]
     have ev:=(X.out.v8 _ _ rfl).1;have ev0:=ev.c0;have ev1:=ev.c1;have ez0:=ev.z0;have ez1:=ev.z1;refine eD 14 (fun K hK=>?_);go_simp;refine hK.out _ _ ?_ (fun hH2=>?_)
     ·exact HS.out _ (X.out.D7 l1 l2).bt
     have Xn:=hdz (X.out.D7 l1 l2);clear hK K hH X ev ev0 ev1 ez0 ez1;have hH:=hH2;have X:=Xn;clear hH2 Xn;generalize (wa8.setCell ⟨b8,0,none⟩ (.int .i64 l1)).setCell ⟨b8,1,none⟩ (.int .i64 l2)=wa9 at *;try simp only [aZ]
     refine dn ?_;clear hH;exact ⟨rfl,_,_,_,_,_,_,_,_,_,_,_,b7,b8,by (try simp only [aZ]);rfl,X.out⟩
   ·go_simp;refine hK.out _ _ ?_ (fun hH2=>?_)
    ·exact HS.out _ (X.out.Fs).bt
    have Xn:=hdz (X.out.Fs);clear hK K hH X;have hH:=hH2;have X:=Xn;clear hH2 Xn;obtain ⟨b7,Iu⟩:=aU (wd.heap.size);rw [←Iu]at X ⊢;clear Iu;generalize wd.alloc (.cells #[.int .i64 0,.int .i64 0] 29)=wa10 at *;try simp only [aZ]
    refine uw 7 12 (fun K hK=>?_) (fun K hK=>?_)
    ·go_simp;go_at_call 122
     ((with_reducible refine (lZ mo c m r1 r2 x1 x2 v1 v2 l1 l2 HV.out.1 HV.out.2 _ X.out.mt HN.out.2.1 (by have:=HN.out;omega)).mono ?_);rintro e wc11 ⟨rfl,Im,hb5⟩);refine hK.out _ _ ?_ (fun hH2=>?_)
     ·exact HS.out _ (X.out.turn Im hb5).bt
     have Xn:=hdz (X.out.turn Im hb5);clear hK K hH X Im hb5;have hH:=hH2;have X:=Xn;clear hH2 Xn;try simp only [aZ]
     refine tk 8 hH ?_;try simp only [aZ]
     refine tk 9 hH ?_;try simp only [aZ]
     refine tk 10 hH ?_;try simp only [aZ]
     refine eD 12 (fun K hK=>?_);go_simp;refine hK.out _ _ ?_ (fun hH2=>?_)
     ·exact HS.out _ (X.out.Fq).bt
     have Xn:=hdz (X.out.Fq);clear hK K hH X;have hH:=hH2;have X:=Xn;clear hH2 Xn;obtain ⟨b8,IB⟩:=aU (wc11.heap.size);rw [←IB]at X ⊢;clear IB;generalize wc11.alloc (.cells #[.int .i64 0,.int .i64 0] 29)=wa12 at *;try simp only [aZ]
     have ev:=(X.out.v7 _ _ rfl).1;have ev0:=ev.c0;have ev1:=ev.c1;have ez0:=ev.z0;have ez1:=ev.z1;refine eD 13 (fun K hK=>?_);go_simp;refine hK.out _ _ ?_ (fun hH2=>?_)
     ·exact HS.out _ (X.out.D6 v1 v2).bt
     have Xn:=hdz (X.out.D6 v1 v2);clear hK K hH X ev ev0 ev1 ez0 ez1;have hH:=hH2;have X:=Xn;clear hH2 Xn;generalize (wa12.setCell ⟨b7,0,none⟩ (.int .i64 v1)).setCell ⟨b7,1,none⟩ (.int .i64 v2)=wa13 at *;try simp only [aZ]
     have ev:=(X.out.v8 _ _ rfl).1;have ev0:=ev.c0;have ev1:=ev.c1;have ez0:=ev.z0;have ez1:=ev.z1;refine eD 14 (fun K hK=>?_);go_simp;refine hK.out _ _ ?_ (fun hH2=>?_)
     ·exact HS.out _ (X.out.D7 l1 l2).bt
     have Xn:=hdz (X.out.D7 l1 l2);clear hK K hH X ev ev0 ev1 ez0 ez1;have hH:=hH2;have X:=Xn;clear hH2 Xn;generalize (wa13.setCell ⟨b8,0,none⟩ (.int .i64 l1)).setCell ⟨b8,1,none⟩ (.int .i64 l2)=wa14 at *;try simp only [aZ]
     refine dn ?_;clear hH;exact ⟨rfl,_,_,_,_,_,_,_,_,_,_,_,b7,b8,by (try simp only [aZ]);rfl,X.out⟩
    ·go_simp;refine hK.out _ _ ?_ (fun hH2=>?_)
     ·exact HS.out _ (X.out.Fq).bt
     have Xn:=hdz (X.out.Fq);clear hK K hH X;have hH:=hH2;have X:=Xn;clear hH2 Xn;obtain ⟨b8,IB⟩:=aU (wa10.heap.size);rw [←IB]at X ⊢;clear IB;generalize wa10.alloc (.cells #[.int .i64 0,.int .i64 0] 29)=wa15 at *;try simp only [aZ]
     refine eD 7 (fun K hK=>?_);go_simp;go_at_call 122
     ((with_reducible refine (lZ mo c m r1 r2 x1 x2 v1 v2 l1 l2 HV.out.1 HV.out.2 _ X.out.mt HN.out.2.1 (by have:=HN.out;omega)).mono ?_);rintro e wc16 ⟨rfl,Im,hb5⟩);refine hK.out _ _ ?_ (fun hH2=>?_)
     ·exact HS.out _ (X.out.turn Im hb5).bt
     have Xn:=hdz (X.out.turn Im hb5);clear hK K hH X Im hb5;have hH:=hH2;have X:=Xn;clear hH2 Xn;try simp only [aZ]
     refine tk 8 hH ?_;try simp only [aZ]
     refine tk 9 hH ?_;try simp only [aZ]
     refine tk 10 hH ?_;try simp only [aZ]
     have ev:=(X.out.v7 _ _ rfl).1;have ev0:=ev.c0;have ev1:=ev.c1;have ez0:=ev.z0;have ez1:=ev.z1;refine eD 13 (fun K hK=>?_);go_simp;refine hK.out _ _ ?_ (fun hH2=>?_)
     ·exact HS.out _ (X.out.D6 v1 v2).bt
     have Xn:=hdz (X.out.D6 v1 v2);clear hK K hH X ev ev0 ev1 ez0 ez1;have hH:=hH2;have X:=Xn;clear hH2 Xn;generalize (wc16.setCell ⟨b7,0,none⟩ (.int .i64 v1)).setCell ⟨b7,1,none⟩ (.int .i64 v2)=wa17 at *;try simp only [aZ]
     have ev:=(X.out.v8 _ _ rfl).1;have ev0:=ev.c0;have ev1:=ev.c1;have ez0:=ev.z0;have ez1:=ev.z1;refine eD 14 (fun K hK=>?_);go_simp;refine hK.out _ _ ?_ (fun hH2=>?_)
     ·exact HS.out _ (X.out.D7 l1 l2).bt
     have Xn:=hdz (X.out.D7 l1 l2);clear hK K hH X ev ev0 ev1 ez0 ez1;have hH:=hH2;have X:=Xn;clear hH2 Xn;generalize (wa17.setCell ⟨b8,0,none⟩ (.int .i64 l1)).setCell ⟨b8,1,none⟩ (.int .i64 l2)=wa18 at *;try simp only [aZ]
     refine dn ?_;clear hH;exact ⟨rfl,_,_,_,_,_,_,_,_,_,_,_,b7,b8,by (try simp only [aZ]);rfl,X.out⟩
   ·go_simp;refine hK.out _ _ ?_ (fun hH2=>?_)
    ·exact HS.out _ (X.out.Fq).bt
    have Xn:=hdz (X.out.Fq);clear hK K hH X;have hH:=hH2;have X:=Xn;clear hH2 Xn;obtain ⟨b8,IB⟩:=aU (wd.heap.size);rw [←IB]at X ⊢;clear IB;generalize wd.alloc (.cells #[.int .i64 0,.int .i64 0] 29)=wa19 at *;try simp only [aZ]
    refine uw 7 11 (fun K hK=>?_) (fun K hK=>?_)
    ·go_simp;go_at_call 122
     ((with_reducible refine (lZ mo c m r1 r2 x1 x2 v1 v2 l1 l2 HV.out.1 HV.out.2 _ X.out.mt HN.out.2.1 (by have:=HN.out;omega)).mono ?_);rintro e wc20 ⟨rfl,Im,hb5⟩);refine hK.out _ _ ?_ (fun hH2=>?_)
     ·exact HS.out _ (X.out.turn Im hb5).bt
     have Xn:=hdz (X.out.turn Im hb5);clear hK K hH X Im hb5;have hH:=hH2;have X:=Xn;clear hH2 Xn;try simp only [aZ]
     refine tk 8 hH ?_;try simp only [aZ]
     refine tk 9 hH ?_;try simp only [aZ]
     refine tk 10 hH ?_;try simp only [aZ]
     refine eD 11 (fun K hK=>?_);go_simp;refine hK.out _ _ ?_ (fun hH2=>?_)
     ·exact HS.out _ (X.out.Fs).bt
     have Xn:=hdz (X.out.Fs);clear hK K hH X;have hH:=hH2;have X:=Xn;clear hH2 Xn;obtain ⟨b7,Iu⟩:=aU (wc20.heap.size);rw [←Iu]at X ⊢;clear Iu;generalize wc20.alloc (.cells #[.int .i64 0,.int .i64 0] 29)=wa21 at *;try simp only [aZ]
     have ev:=(X.out.v7 _ _ rfl).1;have ev0:=ev.c0;have ev1:=ev.c1;have ez0:=ev.z0;have ez1:=ev.z1;refine eD 13 (fun K hK=>?_);go_simp;refine hK.out _ _ ?_ (fun hH2=>?_)
     ·exact HS.out _ (X.out.D6 v1 v2).bt
     have Xn:=hdz (X.out.D6 v1 v2);clear hK K hH X ev ev0 ev1 ez0 ez1;have hH:=hH2;have X:=Xn;clear hH2 Xn;generalize (wa21.setCell ⟨b7,0,none⟩ (.int .i64 v1)).setCell ⟨b7,1,none⟩ (.int .i64 v2)=wa22 at *;try simp only [aZ]
     have ev:=(X.out.v8 _ _ rfl).1;have ev0:=ev.c0;have ev1:=ev.c1;have ez0:=ev.z0;have ez1:=ev.z1;refine eD 14 (fun K hK=>?_);go_simp;refine hK.out _ _ ?_ (fun hH2=>?_)
     ·exact HS.out _ (X.out.D7 l1 l2).bt
     have Xn:=hdz (X.out.D7 l1 l2);clear hK K hH X ev ev0 ev1 ez0 ez1;have hH:=hH2;have X:=Xn;clear hH2 Xn;generalize (wa22.setCell ⟨b8,0,none⟩ (.int .i64 l1)).setCell ⟨b8,1,none⟩ (.int .i64 l2)=wa23 at *;try simp only [aZ]
     refine dn ?_;clear hH;exact ⟨rfl,_,_,_,_,_,_,_,_,_,_,_,b7,b8,by (try simp only [aZ]);rfl,X.out⟩
    ·go_simp;refine hK.out _ _ ?_ (fun hH2=>?_)
     ·exact HS.out _ (X.out.Fs).bt
     have Xn:=hdz (X.out.Fs);clear hK K hH X;have hH:=hH2;have X:=Xn;clear hH2 Xn;obtain ⟨b7,Iu⟩:=aU (wa19.heap.size);rw [←Iu]at X ⊢;clear Iu;generalize wa19.alloc (.cells #[.int .i64 0,.int .i64 0] 29)=wa24 at *;try simp only [aZ]
     refine eD 7 (fun K hK=>?_);go_simp;go_at_call 122
     ((with_reducible refine (lZ mo c m r1 r2 x1 x2 v1 v2 l1 l2 HV.out.1 HV.out.2 _ X.out.mt HN.out.2.1 (by have:=HN.out;omega)).mono ?_);rintro e wc25 ⟨rfl,Im,hb5⟩);refine hK.out _ _ ?_ (fun hH2=>?_)
     ·exact HS.out _ (X.out.turn Im hb5).bt
     have Xn:=hdz (X.out.turn Im hb5);clear hK K hH X Im hb5;have hH:=hH2;have X:=Xn;clear hH2 Xn;try simp only [aZ]
     refine tk 8 hH ?_;try simp only [aZ]
     refine tk 9 hH ?_;try simp only [aZ]
     refine tk 10 hH ?_;try simp only [aZ]
     have ev:=(X.out.v7 _ _ rfl).1;have ev0:=ev.c0;have ev1:=ev.c1;have ez0:=ev.z0;have ez1:=ev.z1;refine eD 13 (fun K hK=>?_);go_simp;refine hK.out _ _ ?_ (fun hH2=>?_)
     ·exact HS.out _ (X.out.D6 v1 v2).bt
     have Xn:=hdz (X.out.D6 v1 v2);clear hK K hH X ev ev0 ev1 ez0 ez1;have hH:=hH2;have X:=Xn;clear hH2 Xn;generalize (wc25.setCell ⟨b7,0,none⟩ (.int .i64 v1)).setCell ⟨b7,1,none⟩ (.int .i64 v2)=wa26 at *;try simp only [aZ]
     have ev:=(X.out.v8 _ _ rfl).1;have ev0:=ev.c0;have ev1:=ev.c1;have ez0:=ev.z0;have ez1:=ev.z1;refine eD 14 (fun K hK=>?_);go_simp;refine hK.out _ _ ?_ (fun hH2=>?_)
     ·exact HS.out _ (X.out.D7 l1 l2).bt
     have Xn:=hdz (X.out.D7 l1 l2);clear hK K hH X ev ev0 ev1 ez0 ez1;have hH:=hH2;have X:=Xn;clear hH2 Xn;generalize (wa26.setCell ⟨b8,0,none⟩ (.int .i64 l1)).setCell ⟨b8,1,none⟩ (.int .i64 l2)=wa27 at *;try simp only [aZ]
     refine dn ?_;clear hH;exact ⟨rfl,_,_,_,_,_,_,_,_,_,_,_,b7,b8,by (try simp only [aZ]);rfl,X.out⟩
  rintro a' w2 ⟨u17,u18,u19,u20,u21,u22,u23,u24,u16,u25,u26,b7,b8,rfl,X2⟩;try simp only [aZ]
  have s0:=(HS.out _ X2.bt).1;have s1:=(HS.out _ X2.bt).2.2.2.1;have s2:=(HS.out _ X2.bt).2.2.2.2.1;have s3:=(X2.v7 _ _ rfl).1.c0;have s4:=(X2.v7 _ _ rfl).1.c1;have s5:=(X2.v8 _ _ rfl).1.c0;have s6:=(X2.v8 _ _ rfl).1.c1;have hl9:=lt_of_heap (show w1.heap[a+2]?=_ from HF.out.r);have n1:¬a=a+1+1:=by omega
  have n2:¬a+1+1=a:=by omega
  have n3:¬b=a+1+1:=uz HL.out.1 (show w1.heap[a+1+1]?=_ from HF.out.r) (by decide);have n4:¬a+1+1=b:=fun e=>n3 e.symm;have n5:¬b7=a+1+1:=by have:=(X2.v7 _ _ rfl).2;omega
  have n6:¬a+1+1=b7:=fun e=>n5 e.symm;have n7:¬b8=a+1+1:=by have:=(X2.v8 _ _ rfl).2;omega
  have n8:¬a+1+1=b8:=fun e=>n7 e.symm;clear hl9;have XA:=hdz X2;clear X2;go_wp2_with fail
  go_region_held3 (fun w'=>w'.cell? ⟨a,0,none⟩=some (.pointer (some ⟨b,0,none⟩))∧w'.cell? ⟨b,2,none⟩=some (.pointer q.q)∧w'.cell? ⟨b,3,none⟩=some (.int .i64 q.n)∧w'.cell? ⟨b7,0,none⟩=some (.int .i64 v1)∧w'.cell? ⟨b7,1,none⟩=some (.int .i64 v2)∧w'.cell? ⟨b8,0,none⟩=some (.int .i64 l1)∧w'.cell? ⟨b8,1,none⟩=some (.int .i64 l2)) (go_keep)
   (first|(go_at_call 121;((with_reducible refine (gX mo _ _ v1 v2 (o.insert (l1,l2)) q5 _ XB.out.mt (by have:=HN.out;have:=HO.out;omega) (by have:=HN.out;have:=HO.out;omega) TB.out).mono ?_);rintro e w6 ⟨p6,rfl,Io,Iy,hb6⟩;have XC:=hdz (XB.out.turn Iy hb6);have TC:=hdz Io;have k0:=(HS.out _ XC.out.bt).1;have k1:=(HS.out _ XC.out.bt).2.2.2.1;have k2:=(HS.out _ XC.out.bt).2.2.2.2.1;have k3:=(XC.out.v7 _ _ rfl).1.c0;have k4:=(XC.out.v7 _ _ rfl).1.c1;have k5:=(XC.out.v8 _ _ rfl).1.c0;have k6:=(XC.out.v8 _ _ rfl).1.c1;have r6:=(HF.out.r.bt XC.out.bt M1.out).c0;have z6:=(HF.out.r.bt XC.out.bt M1.out).z0;clear Io Iy hb6))|(go_at_call 120;((with_reducible refine (Hp.di mo _ _ o (l1,l2) q _ HO.out.1 XA.out.drew.mt (by have:=HN.out;omega) (by have:=HN.out;omega) HN.out.2.2.2.1 (by have:=HN.out;omega) (Hp.aA.bt HL.out.2 XA.out.drew.bt M1.out)).mono ?_);rintro e w5 ⟨q5,rfl,Ip,Im,hb5⟩;have XB:=hdz (XA.out.drew.turn Im hb5);have TB:=hdz Ip;have g0:=(HS.out _ XB.out.bt).1;have g1:=(HS.out _ XB.out.bt).2.2.2.1;have g2:=(HS.out _ XB.out.bt).2.2.2.2.1;have g3:=(XB.out.v7 _ _ rfl).1.c0;have g4:=(XB.out.v7 _ _ rfl).1.c1;have g5:=(XB.out.v8 _ _ rfl).1.c0;have g6:=(XB.out.v8 _ _ rfl).1.c1;clear Ip Im hb5)))
  go_wp2_with fail
  have hk:=(KK.out.turn XC.out.mt XC.out.bt ax).put (HF.out.r.bt XC.out.bt M1.out) aj (by decide) (by rw [←HA.out];omega) 0 (.pointer p6);refine bodyPost_ret (v:=hp p6) (by simp [results,Tryz.results94,go_sem,r6]) rfl ⟨_,rfl,?_,?_,hk.bt⟩
  ·rw [BO,←HV.out.1,←HV.out.2];exact TC.out.wrote (HF.out.r.bt XC.out.bt M1.out) aj 0 _
  ·have e1:c+(((Lh.node (r1,r2) o).iJ:Nat):Int)=c+1+(o.iJ:Nat):=by show c+((o.iJ+1:Nat):Int)=_;omega
   have e2:m+(((Lh.node (r1,r2) o).iF:Nat):Int)=m+(o.iF:Nat)+1:=by show m+((o.iF+1:Nat):Int)=_;omega
   rw [e1,e2];exact hk.mt
def gP (mo:Option Nat)(c m:Int)(t:Lh)(is:Bool)(w:World)(e:Ending)(w':World):Prop:=∃p,e=.returned (.tuple #[hp p,.bool is])∧aA w' t p∧aW w' mo c m∧Bt mo w w'
structure Fp (W:World)(a:Nat)(p:Option Addr):Prop where
 h:bJ W a p
 r:bJ W (a+1) none
theorem Fp.new (w:World)(p:Option Addr):Fp ((w.alloc (.cells #[.pointer p] 122)).alloc (.cells #[.pointer none] 122)) w.heap.size p:=by
 refine ⟨?_,?_⟩
 ·show _=_;rw [alloc_old _ (by simp only [World.size_alloc];omega)];exact aJ rfl
 ·exact aJ (by simp)
theorem jb (mo:Option Nat)(c m:Int)(h:Lh)(p:Option Addr)(w:World)(hs:h.size<134217728)(hm:aW w mo c m)(h0:0≤c)(h1:c<72057594037927936)(h2:0≤m)(h3:m<72057594037927936)
  (hh:aA w h p):Calls Tryz.prog 369 #[hp p,aF mo] w (gP mo (c+h.jf) (m+h.jl) h.pop h.some w):=by
 obtain ⟨w1,hw1⟩:=aU ((w.alloc (.cells #[.pointer p] 122)).alloc (.cells #[.pointer none] 122));have hb1:Below w.heap.size w w1:=by rw [hw1];exact (bG _).alloc (by simp) _
 have F1:Fp w1 w.heap.size p:=by rw [hw1];exact Fp.new w p
 have K1:dL au mo w c m w1:=(dL.refl hm).stay hb1;have HF:=hdz F1;have KK:=hdz K1;have HH:=hdz (show aA w1 h p from hh.stay hb1);have HN:=hdz (af hs (af h0 (af h1 (af h2 h3))));have HW:=hdz hw1;have H0:=hdz hm;have f0:=F1.h.c0;have f2:=F1.r.c0;have f3:=F1.r.z0;clear hs h0 h1 h2 h3 F1 K1 hb1 hm hw1 hh
 cases h with
 | nil =>
  obtain rfl:p=none:=HH.out;go_enter Tryz.func369,Tryz.ntmps369
  go_wp2_with fail
  have hbe:Below w.heap.size w ((w.alloc (.cells #[.pointer none] 122)).alloc (.cells #[.pointer none] 122)):=(bG _).alloc (by simp) _;exact bodyPost_ret (v := .tuple #[hp none,.bool false]) (by simp [results,Tryz.results369,go_sem]) rfl ⟨_,rfl,rfl,by simpa [Lh.jf,Lh.jl] using H0.out.stay hbe,Bt.aV hbe⟩
 | node x o =>
  obtain ⟨b,q,rfl,hb,ho⟩:=HH.out;obtain ⟨⟨⟨m1,m2⟩,is⟩,hmm⟩:=aU (o.min);obtain ⟨T,hT⟩:=aU (o.bT);have HM:=hdz hmm;have HL:=hdz (af hb ho);have HO:=hdz (show o.size<134217728∧T=o.bT∧T<134217728 from ⟨by have:=HN.out.1;simp only [Lh.size]at this;omega,hT,by have:=kz o;have:=HN.out.1;simp only [Lh.size]at this;omega⟩);have g2:=(four hb).c2;have g3:=(four hb).c3;rw [HW.out]at g2 g3;clear hmm hb ho hT HH;go_enter Tryz.func369,Tryz.ntmps369
  go_wp2_with fail
  rw [←HW.out];obtain ⟨a,ha⟩:=aU (w.heap.size);rw [←ha]at HF f0 f2 f3 ⊢;have HA:=hdz ha;clear ha HW;try go_wp2_with fail
  ((with_reducible refine (Hp.iX mo c m o q _ KK.out.mt HN.out.2.1 (by have:=HN.out;omega) HL.out.2).mono ?_);rintro e w2 ⟨rfl,hm2,hb2⟩);rw [show Hp.fH o=.tuple #[.agg #[.int .i64 m1,.int .i64 m2],.bool is] from by rw [Hp.fH,←HM.out]];rw [←HO.out.2.1]at hm2;have XX:=hdz (((rA.refl KK.out.mt).turn hm2 hb2).Ig m1 m2);clear f0 f2 f3 g2 g3 hm2 hb2;have M1:=hdz KK.out.mt;have f0:=(HF.out.h.bt XX.out.bt M1.out).c0;have f2:=(HF.out.r.bt XX.out.bt M1.out).c0;have f3:=(HF.out.r.bt XX.out.bt M1.out).z0;have k:=four (XX.out.bt.row M1.out HL.out.1 (by decide));have g2:=k.c2;have g3:=k.c3;clear k
  cases is with
  | false =>
   have hsome:o.some=false:=by show o.min.2=false;rw [←HM.out]
   have hnil:o=.nil:=Ck hsome;have hT0:T=0:=by rw [HO.out.2.1,hnil];rfl
   go_wp2_with fail
   generalize w2.alloc (.cells #[.int .i64 m1,.int .i64 m2] 29)=w3 at *;obtain ⟨b7,Iu⟩:=aU (w2.heap.size);rw [←Iu]at XX ⊢;clear Iu;have hk:=(KK.out.turn XX.out.mt XX.out.bt ax).put (HF.out.r.bt XX.out.bt M1.out) aj (by decide) (by rw [←HA.out];omega) 0 (.pointer none);refine bodyPost_ret (v := .tuple #[hp none,.bool true]) (by simp [results,Tryz.results369,go_sem,f2]) rfl ⟨none,rfl,?_,?_,hk.bt⟩
   ·rw [kV hsome];rfl
   ·have e1:(Lh.node x o).jf=0:=by simp only [Lh.jf];rw [hsome];rfl
    have e2:(Lh.node x o).jl=0:=by simp only [Lh.jl];rw [hsome];rfl
    rw [e1,e2];have:=hk.mt;rw [hT0]at this;simpa using this
  | true =>
   have hsome:o.some=true:=by show o.min.2=true;rw [←HM.out]
   obtain ⟨PC,hPC⟩:=aU (o.jf);obtain ⟨PM,hPM⟩:=aU (o.jl);have HP:=hdz (show PC=o.jf∧PM=o.jl∧PC<536870912∧PM<536870912∧o.some=true from ⟨hPC,hPM,by have:=Go.Proofs.YtmeodbjlmjpnbaaGreat.Sk.lN o;have:=HO.out;omega,by have:=Go.Proofs.YtmeodbjlmjpnbaaGreat.Sk.lN o;have:=HO.out;omega,hsome⟩);clear hPC hPM hsome;go_wp2_with fail
   generalize w2.alloc (.cells #[.int .i64 m1,.int .i64 m2] 29)=w3 at *;obtain ⟨b7,Iu⟩:=aU (w2.heap.size);rw [←Iu]at XX ⊢;clear Iu;((with_reducible refine (Hp.jb mo (c+(T:Nat)) m o q _ HO.out.1 XX.out.mt (by have:=HN.out;omega) (by have:=HN.out;have:=HO.out;omega) (by have:=HN.out;omega) (by have:=HN.out;omega) (Hp.aA.bt HL.out.2 XX.out.bt M1.out)).mono ?_);rintro e w4 ⟨q5,rfl,IC,hm4,hb4⟩);rw [←HP.out.1,←HP.out.2.1,←HO.out.2.1]at hm4;rw [HP.out.2.2.2.2];have XY:=hdz ((XX.out.turn hm4 hb4).Ij q5);have TY:=hdz (IC.stay (bG (.cells #[.pointer q5.q,.int .i64 q5.n] 117)));have s3:=(XY.out.v7 _ _ rfl).1.c0;have s4:=(XY.out.v7 _ _ rfl).1.c1;have s7:=(XY.out.v9 _ _ rfl).1.c0;have s8:=(XY.out.v9 _ _ rfl).1.c1;clear f0 f2 f3 g2 g3 hm4 hb4 IC;go_wp2_with fail
   generalize w4.alloc (.cells #[.pointer q5.q,.int .i64 q5.n] 117)=w5 at *;obtain ⟨b9,hb9⟩:=aU (w4.heap.size);rw [←hb9]at XY s7 s8 ⊢;clear hb9;((with_reducible refine (gX mo _ _ m1 m2 o.pop q5 _ XY.out.mt (by have:=HN.out;omega) (by have:=HN.out;have:=HP.out;omega) TY.out).mono ?_);rintro e w6 ⟨p6,rfl,Io,Iy,hb6⟩);have XC:=hdz (XY.out.turn Iy hb6);have TC:=hdz Io;have r6:=(HF.out.r.bt XC.out.bt M1.out).c0;have z6:=(HF.out.r.bt XC.out.bt M1.out).z0;clear Io Iy hb6 s3 s4 s7 s8;go_wp2_with fail
   have hk:=(KK.out.turn XC.out.mt XC.out.bt ax).put (HF.out.r.bt XC.out.bt M1.out) aj (by decide) (by rw [←HA.out];omega) 0 (.pointer p6);refine bodyPost_ret (v := .tuple #[hp p6,.bool true]) (by simp [results,Tryz.results369,go_sem,r6]) rfl ⟨p6,rfl,?_,?_,hk.bt⟩
   ·rw [wZ HP.out.2.2.2.2,←HM.out];exact TC.out.wrote (HF.out.r.bt XC.out.bt M1.out) aj 0 _
   ·have e1:c+(((Lh.node x o).jf:Nat):Int)=c+(T:Nat)+((PC+T:Nat):Int):=by simp only [Lh.jf];rw [if_pos HP.out.2.2.2.2,←HP.out.1,←HO.out.2.1];omega
    have e2:m+(((Lh.node x o).jl:Nat):Int)=m+(PM:Nat)+1:=by simp only [Lh.jl];rw [if_pos HP.out.2.2.2.2,←HP.out.2.1];omega
    rw [e1,e2];exact hk.mt
end Go.Proofs.YtmeodbjlmjpnbaaGreat.Sk.Ro
namespace Go.Proofs.YtmeodbjlmjpnbaaGreat.Sk.Ro
open Go.Sort Go.RowKit
theorem wT (xs:List (Int×Int))(k:Nat)(h:k<xs.length):dG .nil (xs.take (k+1))=dG .nil (xs.take k)+(fG (xs.take k)).iJ∧dD .nil (xs.take (k+1))=dD .nil (xs.take k)+(fG (xs.take k)).iF:=by
 rw [List.take_succ_eq_append_getElem h,iU,iP];exact ⟨rfl,rfl⟩
theorem kY (xs:List (Int×Int))(k:Nat)(h:k<xs.length):fG (xs.take (k+1))=(fG (xs.take k)).insert xs[k]:=by
 rw [List.take_succ_eq_append_getElem h,lI]
theorem uZ (xs:List (Int×Int))(h:xs.length<16777216):dG .nil xs<67108864∧dD .nil xs<67108864:=by
 have:=nH xs .nil;omega
theorem nR {w:World}{q:Addr}{v:Value}(h:w.cell? q=some v)(o:Obj):(w.alloc o).cell? q=some v:=(((Below.refl w.heap.size w).alloc (Nat.le_refl _) o).cell (block_lt_of_cell h)).trans h
theorem kC (mo:Option Nat)(c m:Int)(A:Option Addr)(xs:List (Int×Int))(cap:Nat)(w:World)(hm:aW w mo c m)(h0:0≤c)(h1:c<72057594037927936)(h2:0≤m)(h3:m<72057594037927936)(hr:Row w A xs)(hn:xs.length<16777216)
  (hne:0<xs.length → ∀b,mo=some b → ∀q,A=some q→q.block≠b) :
  Calls Tryz.prog 49 #[aF mo,.slice A xs.length cap] w (bU mo (c+dG .nil xs) (m+dD .nil xs) (fG xs) w):=by
 have K1:dL au mo w c m ((w.alloc (.cells #[.pointer none] 122)).alloc (.cells #[.pointer none] 122)):=((dL.refl hm).alloc _).alloc _
 have e1:((w.alloc (.cells #[.pointer none] 122)).alloc (.cells #[.pointer none] 122)).heap[w.heap.size]?=some (.cells #[.pointer none] 122 (0,0)):=by
  rw [alloc_old _ (by simp only [World.size_alloc];omega)];exact aJ rfl
 have e2:((w.alloc (.cells #[.pointer none] 122)).alloc (.cells #[.pointer none] 122)).heap[w.heap.size+1]?=some (.cells #[.pointer none] 122 (0,0)):=aJ (by simp);have HR:=hdz (af hr hne);have HN:=hdz (af h0 (af h1 (af h2 h3)));have HE:=hdz (af e1 e2);have KK:=hdz K1;obtain ⟨n,hnn⟩:=aU (xs.length);rw [←hnn]at hn ⊢;have HX:=hdz hnn;clear hr hne h0 h1 h2 h3 K1 hm e1 e2 hnn;go_enter Tryz.func49,Tryz.ntmps49
 go_wp2_with fail
 generalize (w.alloc (.cells #[.pointer none] 122)).alloc (.cells #[.pointer none] 122)=w1 at *;obtain ⟨a,ha⟩:=aU (w.heap.size);rw [←ha]at HE ⊢;have HA:=hdz ha;clear ha;go_loopg [10] n (fun k i wr => ∃(j:Nat) (p:Option Addr),i=.int .i64 (j:Int)∧j+k=n∧wr.heap[a]?=some (.cells #[.pointer none] 122 (0,0))∧wr.heap[a+1]?=some (.cells #[.pointer p] 122 (0,0))∧aA wr (fG (xs.take j)) p∧dL au mo w (c+dG .nil (xs.take j)) (m+dD .nil (xs.take j)) wr)
 case atStart=>exact ⟨0,none,rfl,by omega,HE.out.1,HE.out.2,rfl,by simpa [dG,dD] using KK.out⟩
 case round =>
  obtain ⟨j,p,rfl,hj,hra,hrb,ht,hk⟩:=hrel;by_cases hlt:j<n
  ·have hjx:j<xs.length:=by rw [←HX.out];exact hlt
   obtain ⟨b,o,rfl,hc⟩:=HR.out.1 (by omega);have hx:=qm hc j hjx;have hne:=fun bb (eb:mo=some bb)=>HR.out.2 (by omega) bb eb _ rfl;have x0:=hk.bt.cell hx.1 hne;have x1:=hk.bt.cell hx.2 hne;have hp:=uZ (xs.take j) (by rw [List.length_take];omega);have hsz:(fG (xs.take j)).size=j:=by rw [kW,List.length_take];omega
   have eP:=wT xs j hjx;have eO:=kY xs j hjx;generalize xs[j]=x at *;obtain ⟨y1,y2⟩:=x;have q1:(j:Int)<(n:Int):=by omega
   have q2:(0:Int)≤(j:Int):=by omega
   have h1c:wr.cell? ⟨a+1,0,none⟩=some (.pointer p):=by simp [World.cell?,hrb]
   have h2c:(wr.alloc (.cells #[.int .i64 y1,.int .i64 y2] 29)).cell? ⟨a+1,0,none⟩=some (.pointer p):=nR h1c _;have X:=hdz (af hra (af hrb (af ht (af hk (af eP (af eO (af hp (af hsz hj))))))));clear hra hrb ht hk eP eO hp hsz hj hc hx hne hjx;go_wp2_with fail
   clear h1c h2c x0 x1;((with_reducible refine (di mo _ _ (fG (xs.take j)) (y1,y2) p _ (by rw [X.out.2.2.2.2.2.2.2.1];omega) (X.out.2.2.2.1.alloc _).mt (by have:=HN.out;omega) (by have:=HN.out;have:=X.out.2.2.2.2.2.2.1;omega) (by have:=HN.out;omega) (by have:=HN.out;have:=X.out.2.2.2.2.2.2.1;omega) (X.out.2.2.1.stay (bG _))).mono ?_);rintro e w2 ⟨p2,rfl,ht2,hm2,hb2⟩);obtain ⟨hra,hrb,ht,hk,eP,eO,hp,hsz,hj⟩:=X.out;have hk2:=(hk.alloc (.cells #[.int .i64 y1,.int .i64 y2] 29)).turn hm2 hb2 ax;have ra2:=hb2.row (hk.alloc _).mt ((alloc_old (.cells #[.int .i64 y1,.int .i64 y2] 29) (lt_of_heap hra)).trans hra) (by decide);have rb2:=hb2.row (hk.alloc _).mt ((alloc_old (.cells #[.int .i64 y1,.int .i64 y2] 29) (lt_of_heap hrb)).trans hrb) (by decide);have e1:c+((dG .nil (xs.take (j+1)):Nat):Int)=c+(dG .nil (xs.take j):Nat)+((fG (xs.take j)).iJ:Nat):=by rw [eP.1];omega
   have e2:m+((dD .nil (xs.take (j+1)):Nat):Int)=m+(dD .nil (xs.take j):Nat)+((fG (xs.take j)).iF:Nat):=by rw [eP.2];omega
   rw [←e1,←e2]at hk2;rw [←eO]at ht2;have z2:w2.frozen? ⟨a+1,0,none⟩=false:=by simp [World.frozen?,rb2]
   have r2:w2.cell? ⟨a+1,0,none⟩=some (.pointer p):=by simp [World.cell?,rb2]
   have Y:=hdz (af (show (w2.setCell ⟨a+1,0,none⟩ (.pointer p2)).heap[a]?=_ from (aH _ _ (by omega)).trans ra2) (af (show (w2.setCell ⟨a+1,0,none⟩ (.pointer p2)).heap[a+1]?=some (.cells #[.pointer p2] 122 (0,0)) from heap_put (j:=0) rb2 (.pointer p2)) (af (ht2.wrote rb2 aj 0 (.pointer p2)) (hk2.put rb2 aj (by decide) (by rw [←HA.out];omega) 0 (.pointer p2)))));clear hra hrb ht hk eP eO hp hsz hk2 ra2 rb2 e1 e2 ht2 hm2 hb2 X;go_wp2_with fail
   go_roundg (n - 1 - j)
   case measure=>omega
   case rel=>exact ⟨j+1,p2,by congr 1,by omega,Y.out.1,Y.out.2.1,Y.out.2.2.1,Y.out.2.2.2⟩
  ·have hjn:j=n:=by omega
   subst hjn;rw [HX.out,List.take_length]at ht hk;have h1c:wr.cell? ⟨a+1,0,none⟩=some (.pointer p):=by simp [World.cell?,hrb]
   have r6:wr.cell? ⟨a,0,none⟩=some (.pointer none):=by simp [World.cell?,hra]
   have z6:wr.frozen? ⟨a,0,none⟩=false:=by simp [World.frozen?,hra]
   have hk2:=hk.put hra aj (by decide) (by rw [←HA.out];omega) 0 (.pointer p);have X:=hdz (af (ht.wrote hra aj 0 (.pointer p)) hk2);clear hra hrb ht hk hk2 hlt hj;go_wp2_with fail
   exact bodyPost_ret (v:=hp p) (by simp [results,Tryz.results49,go_sem,r6]) rfl ⟨_,rfl,X.out.1,X.out.2.mt,X.out.2.bt⟩
end Go.Proofs.YtmeodbjlmjpnbaaGreat.Sk.Ro
namespace Go.Proofs.YtmeodbjlmjpnbaaGreat.Sk.Ro
open Go.Sort Go.RowKit
theorem ic {h:Lh}(hg:h.good):h.min=(hd (dw h.all),decide (0<(dw h.all).length)):=by
 cases h with
 | nil=>rw [show (Lh.nil).all=[] from rfl,kr];rfl
 | node x o=>rw [jK (h := .node x o) hg.ok rfl];rfl
theorem jM {h:Lh}(hg:h.good):h.some=decide (0<(dw h.all).length):=(show h.some=h.min.2 by exact (jX h).symm).trans (congrArg Prod.snd (ic hg))
theorem dJ (h:Lh):(dw h.all).length=h.size:=by rw [kG,Lh.aD]
theorem Ho (h:Lh)(x:Int×Int)(q:Option Addr)(w:World)(hs:h.size<16777216)(hh:aA w h q) :
  Calls Tryz.prog 285 #[.agg #[.pointer q],.pointer none,el x] w fun e w' => ∃q':Option Addr,e=.returned (.iface 185 (.agg #[.pointer q']))∧aA w' (h.insert x) q'∧Below w.heap.size w w':=by
 obtain ⟨x1,x2⟩:=x;have hm:∀(k:Nat) (w:World),(method (k+1) 122 (.agg #[.pointer q]) "Insert").run Tryz.prog w=.ok (94,.agg #[.pointer q]) w:=fun _ _=>by kernel_rfl
 have hb1:Below w.heap.size w ((w.alloc (.cells #[.pointer q] 185)).alloc (.cells #[.int .i64 x1,.int .i64 x2] 29)):=(bG _).alloc (by simp) _;have H:=hdz (af (hh.stay hb1) hb1);have HS:=hdz hs;clear hh hb1 hs;go_enter Tryz.func285,Tryz.ntmps285
 go_wp2_with fail
 refine (di none 0 0 h (x1,x2) q _ (by have:=HS.out;omega) trivial (by decide) (by decide) (by decide) (by decide) H.out.1).mono ?_;rintro e w1 ⟨q',rfl,ht, -,hb⟩;have Y:=hdz (af ht (H.out.2.trans (hb.gK.mono H.out.2.size)));clear ht hb;go_wp2_with fail
 refine bodyPost_ret (v := .iface 185 (.agg #[.pointer q'])) (by simp [results,Tryz.results285,go_sem]) rfl ⟨q',rfl,Y.out.1,Y.out.2⟩
theorem wN (h:Lh)(q:Option Addr)(w:World)(hg:h.good)(hh:aA w h q) :
  Calls Tryz.prog 287 #[.agg #[.pointer q],.pointer none] w fun e w'=>e=.returned (.tuple #[el (hd (dw h.all)),.bool (decide (0<(dw h.all).length))])∧Below w.heap.size w w':=by
 have hm:∀(k:Nat) (w:World),(method (k+1) 122 (.agg #[.pointer q]) "Min").run Tryz.prog w=.ok (368,.agg #[.pointer q]) w:=fun _ _=>by kernel_rfl
 have hb1:Below w.heap.size w ((w.alloc (.cells #[.pointer q] 185)).alloc (.cells #[.int .i64 0,.int .i64 0] 29)):=(bG _).alloc (by simp) _
 have hv:aB ((w.alloc (.cells #[.pointer q] 185)).alloc (.cells #[.int .i64 0,.int .i64 0] 29)) (w.heap.size+1) 29 (.int .i64 0) (.int .i64 0):=by
  have:=aB.new (w.alloc (.cells #[.pointer q] 185)) 29 (.int .i64 0) (.int .i64 0);simpa only [World.size_alloc] using this
 have H:=hdz (af (hh.stay hb1) (af hb1 hv));obtain ⟨x,hx⟩:=aU (h.min);obtain ⟨⟨x1,x2⟩,z⟩:=x;have hx2:=hx.trans (ic hg);rw [show hd (dw h.all)=(x1,x2) from (congrArg Prod.fst hx2).symm,show decide (0<(dw h.all).length)=z from (congrArg Prod.snd hx2).symm];have HM:fH h=.tuple #[.agg #[.int .i64 x1,.int .i64 x2],.bool z]:=by unfold fH;rw [←hx]
 have HN:=hdz HM;clear hh hb1 hg hx hx2 HM hv;go_enter Tryz.func287,Tryz.ntmps287
 go_wp2_with fail
 refine (iX h q (.pointer none) _ H.out.1).mono ?_;rintro e w1 ⟨he,hb⟩;rw [HN.out]at he;subst he;have hv:=H.out.2.2.stay hb;have c0:=hv.c0;have c1:=hv.c1;have z0:=hv.z0;have z1:=hv.z1;have hs:=hv.set (.int .i64 x1) (.int .i64 x2);have k0:=hs.c0;have k1:=hs.c1;have Y:=hdz (H.out.2.1.trans (hb.mono H.out.2.1.size));clear hb hv hs;go_wp2_with fail
 refine bodyPost_ret (v := .tuple #[.agg #[.int .i64 x1,.int .i64 x2],.bool z]) (by simp [results,Tryz.results287,go_sem,k0,k1]) rfl ⟨rfl,(Y.out.setCell (by simp) _).setCell (by simp) _⟩
theorem xO (h:Lh)(q:Option Addr)(w:World)(hs:h.size<16777216)(hh:aA w h q) :
  Calls Tryz.prog 288 #[.agg #[.pointer q],.pointer none] w fun e w' => ∃q':Option Addr,e=.returned (.tuple #[.iface 185 (.agg #[.pointer q']),.bool h.some])∧aA w' h.pop q'∧Below w.heap.size w w':=by
 have hm:∀(k:Nat) (w:World),(method (k+1) 122 (.agg #[.pointer q]) "Pop").run Tryz.prog w=.ok (369,.agg #[.pointer q]) w:=fun _ _=>by kernel_rfl
 have hb1:Below w.heap.size w (w.alloc (.cells #[.pointer q] 185)):=bG _;have H:=hdz (af (hh.stay hb1) hb1);have HS:=hdz hs;obtain ⟨z,hz⟩:=aU (h.some);rw [←hz];have HZ:=hdz hz;clear hh hb1 hs hz;go_enter Tryz.func288,Tryz.ntmps288
 go_wp2_with fail
 refine (jb none 0 0 h q _ (by have:=HS.out;omega) trivial (by decide) (by decide) (by decide) (by decide) H.out.1).mono ?_;rintro e w1 ⟨q',he,ht, -,hb⟩;rw [←HZ.out]at he;subst he;have Y:=hdz (af ht trivial);have hT:=H.out.2.trans (hb.gK.mono H.out.2.size);have HT:=hdz hT;clear ht hb hT;go_wp2_with fail
 refine bodyPost_ret (v := .tuple #[.iface 185 (.agg #[.pointer q']),.bool z]) (by simp [results,Tryz.results288,go_sem]) rfl ⟨q',rfl,Y.out.1.stay (bG _),HT.out.alloc HT.out.size _⟩
theorem qV (h:Lh)(q:Option Addr)(w:World)(hh:aA w h q) :
  Calls Tryz.prog 290 #[.agg #[.pointer q]] w fun e w'=>e=.returned (.int .i64 (h.size:Nat))∧Below w.heap.size w w':=by
 have hm:∀(k:Nat) (w:World),(method (k+1) 122 (.agg #[.pointer q]) "Size").run Tryz.prog w=.ok (370,.agg #[.pointer q]) w:=fun _ _=>by kernel_rfl
 have hb1:Below w.heap.size w (w.alloc (.cells #[.pointer q] 185)):=bG _;have H:=hdz (af (hh.stay hb1) hb1);obtain ⟨z,hz⟩:∃z:Int,z=(h.size:Nat):=⟨_,rfl⟩;rw [←hz];have HZ:=hdz hz;clear hh hb1 hz;go_enter Tryz.func290,Tryz.ntmps290
 go_wp2_with fail
 refine (eF h q _ H.out.1).mono ?_;rintro e w1 ⟨he,hb⟩;rw [←HZ.out]at he;subst he;have Y:=hdz (H.out.2.trans (hb.mono H.out.2.size));clear hb;go_wp2_with fail
 refine bodyPost_ret (v := .int .i64 z) (by simp [results,Tryz.results290,go_sem]) rfl ⟨rfl,Y.out⟩
theorem qM (v:Value)(w:World):Calls Tryz.prog 37 #[.agg #[.iface 185 v]] w fun e w'=>e=.returned (.int .i64 5)∧Below w.heap.size w w':=by
 have hb1:Below w.heap.size w (w.alloc (.cells #[.iface 185 v] 27)):=bG _;have h1:∀(w:World),(Instr.typeAssert (.iface 185 v) 25 177 true).run Tryz.prog w=.ok (.tuple #[.agg #[.pointer none],.bool false]) w:=fun _=>by kernel_rfl
 have h2:∀(w:World),(Instr.typeAssert (.iface 185 v) 25 179 true).run Tryz.prog w=.ok (.tuple #[.agg #[.pointer none,.int .i64 0],.bool false]) w:=fun _=>by kernel_rfl
 have h3:∀(w:World),(Instr.typeAssert (.iface 185 v) 25 181 true).run Tryz.prog w=.ok (.tuple #[.agg #[.pointer none],.bool false]) w:=fun _=>by kernel_rfl
 have h4:∀(w:World),(Instr.typeAssert (.iface 185 v) 25 183 true).run Tryz.prog w=.ok (.tuple #[.agg #[.pointer none,.int .i64 0],.bool false]) w:=fun _=>by kernel_rfl
 have h5:∀(w:World),(Instr.typeAssert (.iface 185 v) 25 185 true).run Tryz.prog w=.ok (.tuple #[v,.bool true]) w:=fun _=>by kernel_rfl
 go_enter Tryz.func37,Tryz.ntmps37
 go_wp2_with fail
 refine bodyPost_ret (v := .int .i64 5) (by simp [results,Tryz.results37,go_sem]) rfl ⟨rfl,hb1⟩
theorem EI (q:Option Addr)(w:World):Calls Tryz.prog 48 #[.agg #[.pointer q]] w fun e w'=>e=.returned (.agg #[.iface 185 (.agg #[.pointer q])])∧Below w.heap.size w w':=by
 have hb1:Below w.heap.size w ((w.alloc (.cells #[.pointer q] 122)).alloc (.cells #[.iface 185 (.agg #[.pointer q])] 27)):=(bG _).alloc (by simp) _;go_enter Tryz.func48,Tryz.ntmps48
 go_wp2_with fail
 refine bodyPost_ret (v := .agg #[.iface 185 (.agg #[.pointer q])]) (by simp [results,Tryz.results48,go_sem]) rfl ⟨rfl,hb1⟩
theorem ET (A:Option Addr)(xs:List (Int×Int))(cap:Nat)(w:World)(hr:Row w A xs)(hn:xs.length<16777216) :
  Calls Tryz.prog 18 #[.pointer none,.int .i64 5,.slice A xs.length cap] w fun e w' => ∃q':Option Addr,e=.returned (.tuple #[.agg #[.iface 185 (.agg #[.pointer q'])],.int .i64 0])∧aA w' (fG xs) q'∧Below w.heap.size w w':=by
 have hb1:Below w.heap.size w (w.alloc (.cells #[.nilIface] 27)):=bG _;have H:=hdz (af (hr.below hb1) hb1);obtain ⟨L,hL⟩:=aU (xs.length);have HL:=hdz (af hL (hL▸hn:L<16777216));rw [←hL];clear hr hb1 hL hn;go_enter Tryz.func18,Tryz.ntmps18
 go_wp2_with fail
 have hL:=HL.out.1;subst hL;refine (kC none 0 0 A xs cap _ trivial (by decide) (by decide) (by decide) (by decide) H.out.1 HL.out.2 (fun _ _ e=>by cases e)).mono ?_;rintro e w1 ⟨q',rfl,ht, -,hb⟩;have hB:=hb.gK;have hF:w1.heap[w.heap.size]?=some (.cells #[.nilIface] 27 (0,0)):=(hB.block _ (by simp)).trans (heap_alloc_new w _);have Y:=hdz (af ht (af (H.out.2.trans (hB.mono H.out.2.size)) hF));clear hB hF;clear ht hb;go_wp2_with fail
 refine (EI q' _).mono ?_;rintro e w2 ⟨rfl,hb2⟩;have hF:=(hb2.block _ (lt_of_heap Y.out.2.2)).trans Y.out.2.2;have k0:=one_cell hF;have z0:=iQ hF;have Z:=hdz (af (Y.out.1.stay hb2) (af (Y.out.2.1.trans (hb2.mono Y.out.2.1.size)) hF));clear hb2 hF;have k1:=one_cell (gD Z.out.2.2 (.iface 185 (.agg #[.pointer q'])));go_wp2_with fail
 refine bodyPost_ret (v := .tuple #[.agg #[.iface 185 (.agg #[.pointer q'])],.int .i64 0]) (by simp [results,Tryz.results18,go_sem,k1]) rfl ⟨q',rfl,Z.out.1.fQ (bO.set Z.out.2.2 (by unfold au Hp.au dV;decide) 0 _) (by simp [World.setCell]),Z.out.2.1.setCell (Nat.le_refl _) _⟩
theorem fC {W W':World}(h:bO NH W W'):bO au W W':=fun b cs t ht=>h b cs t (by unfold au Hp.au dV at ht;rcases ht with ((rfl|rfl|rfl)|rfl)|rfl<;>decide)
def At (W:World)(v:Value)(l:List (Int×Int)):Prop:=∃q:Option Addr,v=.agg #[.pointer q] ∧ ∃h:Lh,aA W h q∧h.good∧dw h.all=l
theorem mr:iT 5 185 285 286 287 288 290 At where
 mN:=fun _ _ _=>by kernel_rfl
 mP:=fun _ _ _=>by kernel_rfl
 mS:=fun _ _ _=>by kernel_rfl
 cN:=fun _ _=>by kernel_rfl
 cP:=fun _ _=>by kernel_rfl
 cS:=fun _ _=>by kernel_rfl
 stay:=fun ha hb=>by
  obtain ⟨q,rfl,h,hh,hg,rfl⟩:=ha;exact ⟨q,rfl,h,hh.stay hb,hg,rfl⟩
 keep:=fun ha hk hs=>by
  obtain ⟨q,rfl,h,hh,hg,rfl⟩:=ha;exact ⟨q,rfl,h,hh.fQ (fC hk) hs,hg,rfl⟩
 min:=fun v l w ha=>by
  obtain ⟨q,rfl,h,hh,hg,rfl⟩:=ha;exact wN h q w hg hh
 pop:=fun v l w ha hn=>by
  obtain ⟨q,rfl,h,hh,hg,rfl⟩:=ha;rw [dJ]at hn;exact (xO h q w hn hh).mono fun e w' ⟨q',he,ht,hb⟩=>⟨_,by rw [←jM hg];exact he,⟨q',rfl,_,ht,jE hg,kS hg.ok⟩,hb⟩
 size:=fun v l w ha=>by
  obtain ⟨q,rfl,h,hh,hg,rfl⟩:=ha;rw [dJ];exact qV h q w hh
 kind:=fun v w=>qM v w
 of:=fun A xs cap w hr hn hf=>(ET A xs cap w hr hn).mono fun e w' ⟨q',he,ht,hb⟩=>⟨_,he,⟨q',rfl,_,ht,kT hf,nD xs⟩,hb⟩
end Go.Proofs.YtmeodbjlmjpnbaaGreat.Sk.Ro
