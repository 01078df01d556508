/- Heaps whose others are heaps, in memory: a node's block of five cells (the root, the value of the queue, a skew binomial heap of the addresses of heaps' nodes, and how many elements there are); they stay where no block of the types of either turns; what becomes of a queue that is put into, melded, taken out of. No conditions beyond what each theorem says. -/
import Derived.Test.YtmeodbjlmjpnbaaGreatPua
import Derived.Test.YtmeodbjlmjpnbaaGreatPvb
import Derived.Deep.RegionHeld3
import Derived.Test.YtmeodbjlmjpnbaaGreatPa
import Derived.Deep.LoopGhost
import Derived.Handy
set_option maxRecDepth 100000
set_option maxHeartbeats 8000000
namespace Go.Proofs.YtmeodbjlmjpnbaaGreat.U.Bo
open Go.Sort Go.RowKit Go.Proofs.YtmeodbjlmjpnbaaGreat.U.Gn
theorem alloc_old {w:World}{k:Nat}(o:Obj)(h:k<w.heap.size):(w.alloc o).heap[k]?=w.heap[k]?:=((Below.refl w.heap.size w).alloc (Nat.le_refl _) o).block k h
theorem aH {W:World}{b k:Nat}(j:Nat)(v:Value)(h:k≠b):(W.setCell ⟨b,j,none⟩ v).heap[k]?=W.heap[k]?:=Below.heap_setCell W ⟨b,j,none⟩ v k h
abbrev au:TypeId→Prop:=Hp.au
abbrev Kp (W W':World):Prop:=bO au W W'
theorem ax:¬au 89 := Hp.ax
theorem aj:¬au 127 := by unfold au Hp.au dV;decide
theorem Eh:¬au 125 := Hp.GK
abbrev Qh:=Go.Proofs.YtmeodbjlmjpnbaaGreat.U.Lh
def heaps (o:Qh):List (Gn.ai Lh):=o.ts.map (Gn.ai.map aN.h)
theorem vF (o:Qh):Gn.aR (heaps o)=o.all.map aN.h:=Gn.xB _ _
theorem Bp (o:Qh):Gn.ah (heaps o)=o.size:=Gn.Dw _ _
def bB (x:Int×Int)(q:Hp.HP)(n:Int):Obj := .cells #[.int .i64 x.1,.int .i64 x.2,.pointer q.q,.int .i64 q.n,.int .i64 n] 259 (0,0)
inductive kQ (W:World):Lh→Option Addr→Prop
 | nil:kQ W .nil none
 | node {x:Int×Int} {a:Nat} {q:Hp.HP} {o:Qh} (hb:W.heap[a]?=some (bB x q ((Lh.node x (heaps o)).size:Nat))) (hq:Hp.aA W o q) (hs:∀b∈o.all,kQ W b.h (some ⟨b.a,0,none⟩)):kQ W (.node x (heaps o)) (some ⟨a,0,none⟩)
structure aA (W:World)(t:Lh)(p:Option Addr):Prop where
 lies:kQ W t p
 right:t.ok
 small:t.size≤268435456
abbrev hp (p:Option Addr):Value := .agg #[.pointer p]
section
variable {W W':World}{mo:Option Nat}{c m:Int}
theorem kQ.fQ (h:Kp W W')(hs:W.heap.size≤W'.heap.size){t:Lh}{p:Option Addr}(hn:kQ W t p):kQ W' t p:=by
 induction hn with
 | nil=>exact .nil
 | node hb hq _ ih=>exact .node (h _ _ _ (.inl (.inr (.inr (.inr rfl)))) hb) (hq.fQ h hs) ih
theorem aA.fQ {t:Lh}{p:Option Addr}(hn:aA W t p)(h:Kp W W')(hs:W.heap.size≤W'.heap.size):aA W' t p:=⟨hn.lies.fQ h hs,hn.right,hn.small⟩
theorem kQ.stay {t:Lh}{p:Option Addr}(hn:kQ W t p)(h:Below W.heap.size W W'):kQ W' t p:=hn.fQ (bO.below h) h.size
theorem aA.stay {t:Lh}{p:Option Addr}(hn:aA W t p)(h:Below W.heap.size W W'):aA W' t p:=hn.fQ (bO.below h) h.size
theorem aA.bt {t:Lh}{p:Option Addr}(h:aA W t p)(hb:Bt mo W W')(hm:aW W mo c m):aA W' t p:=h.fQ (hb.oG hm ax) hb.size
theorem aA.none (w:World):aA w .nil Option.none:=⟨.nil,uR,by decide⟩
theorem aA.no {p:Option Addr}(h:aA W .nil p):p=Option.none:=by
 have:=h.lies
 cases this
 rfl
theorem vg (W:World)(a:Addr)(u:Value):(W.setCell a u).heap.size=W.heap.size:=by simp [World.setCell]
theorem aA.wrote {t:Lh}{p:Option Addr}(hn:aA W t p){g:Nat}{cs:Array Value}{ty:TypeId}{z:Nat×Nat}(hg:W.heap[g]?=some (.cells cs ty z))(ht:¬au ty)(off:Nat)(u:Value):aA (W.setCell ⟨g,off,Option.none⟩ u) t p :=
 hn.fQ (bO.set hg ht off u) (by rw [vg];exact Nat.le_refl _)
theorem aA.parts {x:Int×Int}{q:List (Gn.ai Lh)}{p:Option Addr}(h:aA W (.node x q) p):∃(a:Nat) (s:Hp.HP) (o:Qh),p=some ⟨a,0,Option.none⟩∧W.heap[a]?=some (bB x s ((Lh.node x q).size:Nat))∧Hp.aA W o s∧(∀b∈o.all,kQ W b.h (some ⟨b.a,0,Option.none⟩))∧q=heaps o:=by
 have:=h.lies
 cases this with
 | node hb hq hs=>exact ⟨_,_,_,rfl,hb,hq,hs,rfl⟩
structure Four (W:World)(b:Nat)(x:Int×Int)(q:Hp.HP)(n:Int):Prop where
 c0:W.cell? ⟨b,0,none⟩=some (.int .i64 x.1)
 c1:W.cell? ⟨b,1,none⟩=some (.int .i64 x.2)
 c2:W.cell? ⟨b,2,none⟩=some (.pointer q.q)
 c3:W.cell? ⟨b,3,none⟩=some (.int .i64 q.n)
 c4:W.cell? ⟨b,4,none⟩=some (.int .i64 n)
theorem four {b:Nat}{x:Int×Int}{q:Hp.HP}{n:Int}(h:W.heap[b]?=some (bB x q n)):Four W b x q n:=by
 constructor<;>simp [World.cell?,h,bB]
theorem rT {b:Nat}{x:Int×Int}{q:Hp.HP}{n:Int}(h:W.heap[b]?=some (bB x q n))(hk:Kp W W'):Four W' b x q n:=four (hk b _ _ (.inl (.inr (.inr (.inr rfl)))) h)
def bJ (W:World)(b:Nat)(p:Option Addr):Prop:=W.heap[b]?=some (.cells #[.pointer p] 127 (0,0))
theorem bJ.bt {b:Nat}{p:Option Addr}(h:bJ W b p)(hb:Bt mo W W')(hm:aW W mo c m):bJ W' b p:=hb.row hm h (by decide)
theorem bJ.c0 {b:Nat}{p:Option Addr}(h:bJ W b p):W.cell? ⟨b,0,none⟩=some (.pointer p):=by unfold bJ at h;simp [World.cell?,h]
theorem bJ.z0 {b:Nat}{p:Option Addr}(h:bJ W b p):W.frozen? ⟨b,0,none⟩=false:=by unfold bJ at h;simp [World.frozen?,h]
theorem bJ.put {b:Nat}{p:Option Addr}(h:bJ W b p)(q:Option Addr):bJ (W.setCell ⟨b,0,none⟩ (.pointer q)) b q:=heap_put (j:=0) h _
theorem bJ.set {b':Nat}{p:Option Addr}(h:bJ W b' p){b:Nat}(hne:b'≠b)(off:Nat)(u:Value):bJ (W.setCell ⟨b,off,none⟩ u) b' p:=(aH _ _ hne).trans h
theorem CU {x:Int×Int}{q:List (Gn.ai Lh)}{a:Nat}(h:kQ W (.node x q) (some ⟨a,0,none⟩)):iI W ⟨.node x q,a⟩:=by
 cases h with
 | node hb hq hs=>exact ⟨_,_,_,hb⟩
theorem xE {x:Int×Int}{o:Qh}(hk:(Lh.node x (heaps o)).ok):o.size+1≤(Lh.node x (heaps o)).size:=by
 cases hk with
 | node h1 h2 h3 =>
  have:=Aw _ fun b hb=>(h3 b hb).1;rw [Gn.aG,Bp]at this;rw [l9,fF,List.length_cons];omega
theorem uD (x:aN):Gn.Key.key x.h=Gn.Key.key x:=rfl
theorem uo (o:Qh)(y:aN):heaps (o.insert y)=Gn.dQ (heaps o) y.h:=(Gn.Ak aN.h uD o.ts y).symm
theorem lW (o:Qh):o.iJ=Gn.eX (heaps o)∧o.iF=Gn.eG (heaps o):=by
 have h:=Gn.yF aN.h o.ts;exact ⟨h.1.symm,h.2.symm⟩
theorem vQ {o:Qh}{y:aN}(h:∀b∈o.all,kQ W b.h (some ⟨b.a,0,none⟩))(hy:kQ W y.h (some ⟨y.a,0,none⟩)):∀b∈(o.insert y).all,kQ W b.h (some ⟨b.a,0,none⟩):=by
 intro b hb;rcases List.mem_cons.1 ((Go.Proofs.YtmeodbjlmjpnbaaGreat.U.bD o y).subset hb) with rfl|hb
 ·exact hy
 ·exact h b hb
theorem BI (a b:Qh):heaps (Go.Proofs.YtmeodbjlmjpnbaaGreat.U.bI a b)=Gn.nu (heaps a) (heaps b)∧Go.Proofs.YtmeodbjlmjpnbaaGreat.U.aQ a b=Gn.fO (heaps a) (heaps b):=by
 have h:=Gn.Cw aN.h uD a.ts b.ts;exact ⟨h.1.symm,h.2.symm⟩
theorem DR {a b:Qh}(ha:∀x∈a.all,kQ W x.h (some ⟨x.a,0,none⟩))(hb:∀x∈b.all,kQ W x.h (some ⟨x.a,0,none⟩)):∀x∈(Go.Proofs.YtmeodbjlmjpnbaaGreat.U.bI a b).all,kQ W x.h (some ⟨x.a,0,none⟩):=by
 intro x hx;rcases List.mem_append.1 ((Go.Proofs.YtmeodbjlmjpnbaaGreat.U.bP a b).subset hx) with h|h
 ·exact ha x h
 ·exact hb x h
theorem Dz (o:Qh):heaps o.pop=Gn.nK (heaps o)∧o.jf=Gn.qG (heaps o)∧o.jl=Gn.qH (heaps o):=by
 have h:=Gn.Ew aN.h uD o.ts;exact ⟨h.1.symm,h.2.1.symm,h.2.2.symm⟩
theorem DN (o:Qh):(heaps o).length=o.ts.length:=List.length_map ..
theorem zZ {o:Qh}(h:o.ts≠[]):least (heaps o)=o.min.1.h:=Gn.EU aN.h uD h
theorem Ai {o:Qh}(h:∀b∈o.all,kQ W b.h (some ⟨b.a,0,none⟩))(hne:o.ts≠[]):kQ W o.min.1.h (some ⟨o.min.1.a,0,none⟩) ∧ ∀b∈o.pop.all,kQ W b.h (some ⟨b.a,0,none⟩):=by
 have hp:=Gn.jU hne;exact ⟨h _ (hp.symm.subset (List.mem_cons_self ..)),fun b hb=>h b (hp.symm.subset (List.mem_cons_of_mem _ hb))⟩
end
def bU (mo:Option Nat)(c m:Int)(t:Lh)(w:World)(e:Ending)(w':World):Prop:=∃p,e=.returned (hp p)∧aA w' t p∧aW w' mo c m∧Bt mo w w'
end Go.Proofs.YtmeodbjlmjpnbaaGreat.U.Bo
namespace Go.Proofs.YtmeodbjlmjpnbaaGreat.U.Bo
open Go.Sort Go.RowKit Go.Proofs.YtmeodbjlmjpnbaaGreat.U.Gn
def cZ (W:World)(b:Nat)(x:Int×Int):Prop:=W.heap[b]?=some (.cells #[.int .i64 x.1,.int .i64 x.2] 29 (0,0))
section
variable {W W':World}{mo:Option Nat}{c m:Int}
theorem cZ.bt {b:Nat}{x:Int×Int}(h:cZ W b x)(hb:Bt mo W W')(hm:aW W mo c m):cZ W' b x:=hb.row hm h (by decide)
theorem cZ.c0 {b:Nat}{x:Int×Int}(h:cZ W b x):W.cell? ⟨b,0,none⟩=some (.int .i64 x.1):=by unfold cZ at h;simp [World.cell?,h]
theorem cZ.c1 {b:Nat}{x:Int×Int}(h:cZ W b x):W.cell? ⟨b,1,none⟩=some (.int .i64 x.2):=by unfold cZ at h;simp [World.cell?,h]
theorem cZ.z0 {b:Nat}{x:Int×Int}(h:cZ W b x):W.frozen? ⟨b,0,none⟩=false:=by unfold cZ at h;simp [World.frozen?,h]
theorem cZ.z1 {b:Nat}{x:Int×Int}(h:cZ W b x):W.frozen? ⟨b,1,none⟩=false:=by unfold cZ at h;simp [World.frozen?,h]
theorem cZ.new (W:World)(x1 x2:Int){n:Nat}(h:n=W.heap.size):cZ (W.alloc (.cells #[.int .i64 x1,.int .i64 x2] 29)) n (x1,x2):=aJ h
theorem cZ.lt {b:Nat}{x:Int×Int}(h:cZ W b x):b<W.heap.size:=lt_of_heap h
theorem cZ.put {b:Nat}{x:Int×Int}(h:cZ W b x)(y1 y2:Int):cZ ((W.setCell ⟨b,0,none⟩ (.int .i64 y1)).setCell ⟨b,1,none⟩ (.int .i64 y2)) b (y1,y2):=heap_put (j:=1) (heap_put (j:=0) h _) _
theorem cZ.alloc {b:Nat}{x:Int×Int}(h:cZ W b x)(o:Obj):cZ (W.alloc o) b x:=(alloc_old o (lt_of_heap h)).trans h
theorem cZ.stay {b:Nat}{x:Int×Int}(h:cZ W b x)(hb:Below W.heap.size W W'):cZ W' b x:=(hb.block _ (lt_of_heap h)).trans h
theorem cZ.aside {b g:Nat}{x:Int×Int}(h:cZ W b x)(hne:b≠g)(u v:Value):cZ ((W.setCell ⟨g,0,none⟩ u).setCell ⟨g,1,none⟩ v) b x:=(aH _ _ hne).trans ((aH _ _ hne).trans h)
end
abbrev fH (t:Lh):Value := .tuple #[el t.min.1,.bool t.min.2]
theorem iX (t:Lh)(p:Option Addr)(m:Value)(w:World)(h:aA w t p):Calls Tryz.prog 371 #[hp p,m] w fun e w'=>e=.returned (fH t)∧Below w.heap.size w w':=by
 cases t with
 | nil =>
  obtain rfl:=h.no;go_enter Tryz.func371,Tryz.ntmps371
  go_wp2
  refine bodyPost_ret (v:=fH .nil) (by simp [results,Tryz.results371,go_sem,Lh.min]) rfl ⟨rfl,?_⟩;exact ((Below.refl w.heap.size w).alloc (Nat.le_refl _) _).alloc (by simp) _
 | node x o =>
  obtain ⟨b,q, -,rfl,hb, -⟩:=h.parts;obtain ⟨x1,x2⟩:=x;have hk:=rT (W':=(w.alloc (.cells #[.pointer (some ⟨b,0,none⟩)] 127)).alloc (.cells #[.int .i64 0,.int .i64 0] 29)) hb (bO.below ((bG _).alloc (by simp) _));have c0:=hk.c0;have c1:=hk.c1;clear hk hb;go_enter Tryz.func371,Tryz.ntmps371
  go_wp2
  refine bodyPost_ret (v:=fH (.node (x1,x2) o)) (by simp [results,Tryz.results371,go_sem,Lh.min]) rfl ⟨rfl,?_⟩;exact ((Below.refl w.heap.size w).alloc (Nat.le_refl _) _).alloc (by simp) _
theorem gX (mo:Option Nat)(c m:Int)(x1 x2:Int)(o:Qh)(q:Hp.HP)(n:Int)(w:World)(hn:n=((Lh.node (x1,x2) (heaps o)).size:Nat))(hm:aW w mo c m)(h2:0≤m)(h3:m<4611686018427387904)(hk:Hp.aA w o q)(hl:∀b∈o.all,kQ w b.h (some ⟨b.a,0,none⟩))(hok:(Lh.node (x1,x2) (heaps o)).ok)(hsm:(Lh.node (x1,x2) (heaps o)).size≤268435456) :
  Calls Tryz.prog 123 #[aF mo,.agg #[.int .i64 x1,.int .i64 x2,.pointer q.q,.int .i64 q.n,.int .i64 n]] w (bU mo c (m+1) (.node (x1,x2) (heaps o)) w):=by
 have hb1:Below w.heap.size w ((w.alloc (bB (x1,x2) q n)).alloc (.cells #[.pointer none] 127)):=(bG _).alloc (by simp) _;have e1:((w.alloc (bB (x1,x2) q n)).alloc (.cells #[.pointer none] 127)).heap[w.heap.size]?=some (bB (x1,x2) q n):=(alloc_old _ (by simp)).trans (aJ rfl);have e2:((w.alloc (bB (x1,x2) q n)).alloc (.cells #[.pointer none] 127)).heap[w.heap.size+1]?=some (.cells #[.pointer none] 127 (0,0)):=aJ (by simp);have K1:dL au mo w c m ((w.alloc (bB (x1,x2) q n)).alloc (.cells #[.pointer none] 127)):=(dL.refl hm).stay hb1;have HX:=hdz (af K1 (af e1 (af e2 (af hk (af hl (af hok (af hsm hn)))))));clear hb1 e1 e2 K1 hk hm hl hok hsm hn;unfold bB at HX;go_enter Tryz.func123,Tryz.ntmps123
 go_wp2_with fail
 generalize (w.alloc _).alloc (.cells #[.pointer none] 127)=w1 at *;obtain ⟨a,ha⟩:=aU (w.heap.size);rw [←ha]at HX ⊢;have HA:=hdz ha;clear ha;((with_reducible refine (mZ mo c m _ HX.out.1.mt h2 h3).mono ?_);rintro e w2 ⟨rfl,hm2,hb2⟩);have K2:=HX.out.1.turn hm2 hb2 ax;have R2:=hb2.row HX.out.1.mt HX.out.2.2.1 (by decide);have N2:=hb2.row HX.out.1.mt HX.out.2.1 (by decide);have r0:w2.cell? ⟨a+1,0,none⟩=some (.pointer none):=by simp [World.cell?,R2]
 have z0:w2.frozen? ⟨a+1,0,none⟩=false:=by simp [World.frozen?,R2]
 have Y:=hdz (af K2 (af R2 N2));clear hm2 hb2 K2 R2 N2;go_wp2_with fail
 have hk:=(Y.out.1.put Y.out.2.1 aj (by decide) (by rw [←HA.out];omega) 0 (.pointer (some ⟨a,0,none⟩)));refine bodyPost_ret (v:=hp (some ⟨a,0,none⟩)) (by simp [results,Tryz.results123,go_sem,r0]) rfl ⟨_,rfl,?_,hk.mt,hk.bt⟩;refine ⟨kQ.node (q:=q) ?_ (Hp.aA.fQ HX.out.2.2.2.1 hk.kp hk.bt.size) (fun b hb=>(HX.out.2.2.2.2.1 b hb).fQ hk.kp hk.bt.size),HX.out.2.2.2.2.2.1,HX.out.2.2.2.2.2.2.1⟩;rw [aH _ _ (by omega),Y.out.2.2,HX.out.2.2.2.2.2.2.2];rfl
end Go.Proofs.YtmeodbjlmjpnbaaGreat.U.Bo
namespace Go.Proofs.YtmeodbjlmjpnbaaGreat.U.Bo
open Go.Sort Go.RowKit Go.Proofs.YtmeodbjlmjpnbaaGreat.U.Gn
def Lh.pre:Lh→List ((Int×Int)×Nat)
 | .nil=>[]
 | .node x q=>(x,(Lh.node x q).size)::((Gn.aR q).attach.map fun b=>b.1.pre).flatten
termination_by h=>SizeOf.sizeOf h
decreasing_by
 have:=jF q b.1 b.2;rw [Lh.node.sizeOf_spec];omega
theorem pre_nil:Lh.pre .nil=[]:=by rw [Lh.pre]
theorem tZ (x:Int×Int)(q:List (Gn.ai Lh)):(Lh.node x q).pre=(x,(Lh.node x q).size)::(Gn.aR q).flatMap Lh.pre:=by
 rw [Lh.pre,List.attach_map_val,←List.flatMap_def]
def cut (t:Nat)(E:List Nat):List Nat:=(E.reverse.dropWhile (· == t)).reverse
theorem xG (t:Nat)(E:List Nat):cut t (E++[t])=cut t E:=by simp [cut]
theorem vB {t u:Nat}(h:u≠t)(E:List Nat):cut t (E++[u])=E++[u]:=by simp [cut,h]
theorem yM (t:Nat):∀l:List Nat,(l.dropWhile (· == t)).length≤l.length
 | []=>Nat.le_refl _
 | a::l=>by
  rw [List.dropWhile_cons];split
  ·have:=yM t l;rw [List.length_cons];omega
  ·exact Nat.le_refl _
theorem uh (t:Nat)(E:List Nat):(cut t E).length≤E.length:=by
 have:=yM t E.reverse;simpa [cut] using this
structure qI where
 t:Nat
 E:List Nat
 o:List UInt8
def sep (o:List UInt8):List UInt8:=if o=[] then [] else [32]
def qI.ends (c:qI)(s:Nat):Nat:=(c.E++[c.t+s]).length - (cut (c.t+1) (c.E++[c.t+s])).length
def qI.step (c:qI)(p:(Int×Int)×Nat):qI :=
 ⟨c.t+1,cut (c.t+1) (c.E++[c.t+p.2]),c.o++sep c.o++(91::(textOf p.1.1 p.1.2++List.replicate (c.ends p.2) 93))⟩
def qI.run (c:qI)(l:List ((Int×Int)×Nat)):qI:=l.foldl qI.step c
def wm:qI:=⟨0,[],[]⟩
theorem Aq {o:List UInt8}(h:o≠[]):sep o=[32]:=if_neg h
def sizes (l:List Lh):Nat:=(l.map Lh.size).sum
theorem jr (b:Lh)(l:List Lh):sizes (b::l)=b.size+sizes l:=by simp [sizes]
theorem D8 (l:List Lh):(l.flatMap Lh.els).length=sizes l:=by
 induction l with
 | nil=>rfl
 | cons b l ih=>rw [List.flatMap_cons,List.length_append,ih,jr,Fe,Lh.aD]
theorem rM (x:Int×Int)(q:List (Gn.ai Lh)):(Lh.node x q).size=sizes (Gn.aR q)+1:=by show ((Gn.aR q).flatMap Lh.els).length+1=_;rw [D8]
theorem wC (h:Lh):h.pre.length=h.size:=by
 suffices H:∀n (h:Lh),SizeOf.sizeOf h≤n→h.pre.length=h.size from H _ h (Nat.le_refl _)
 intro n;induction n with
 | zero=>intro h hs;cases h<;>simp at hs
 | succ n ih =>
  intro h hs
  cases h with
  | nil=>rw [pre_nil];rfl
  | node x q =>
   rw [tZ,List.length_cons,rM]
   have:∀l:List Lh,(∀b∈l,b∈Gn.aR q)→(l.flatMap Lh.pre).length=sizes l:=by
    intro l;induction l with
    | nil=>intro _;rfl
    | cons b l ihl =>
     intro hl;have:=jF q b (hl b (by simp));rw [Lh.node.sizeOf_spec]at hs;rw [List.flatMap_cons,List.length_append,ihl (fun c hc=>hl c (List.mem_cons_of_mem _ hc)),ih b (by omega),jr]
   rw [this _ (fun _ h=>h)]
theorem Cc (h:Lh):∀p∈h.pre,p.1∈h.all∧p.2≤h.size:=by
 suffices H:∀n (h:Lh),SizeOf.sizeOf h≤n → ∀p∈h.pre,p.1∈h.all∧p.2≤h.size from H _ h (Nat.le_refl _)
 intro n;induction n with
 | zero=>intro h hs;cases h<;>simp at hs
 | succ n ih =>
  intro h hs p hp
  cases h with
  | nil=>rw [pre_nil]at hp;cases hp
  | node x q =>
   rw [tZ]at hp;rcases List.mem_cons.1 hp with rfl|hp
   ·exact ⟨by rw [fF];exact List.mem_cons_self ..,Nat.le_refl _⟩
   ·obtain ⟨b,hb,hpb⟩:=List.mem_flatMap.1 hp;have h1:=jF q b hb;rw [Lh.node.sizeOf_spec]at hs;obtain ⟨h2,h3⟩:=ih b (by omega) p hpb;refine ⟨by rw [fF];exact List.mem_cons_of_mem _ (List.mem_flatMap.2 ⟨b,hb,h2⟩),?_⟩
    have h4:∀l:List Lh,b∈l→b.size≤sizes l:=by
     intro l;induction l with
     | nil=>intro h;cases h
     | cons d l ihl =>
      intro h;rw [jr];rcases List.mem_cons.1 h with rfl|h
      ·omega
      ·have:=ihl h;omega
    have h5:=h4 _ hb;rw [rM];omega
end Go.Proofs.YtmeodbjlmjpnbaaGreat.U.Bo
namespace Go.Proofs.YtmeodbjlmjpnbaaGreat.U.Bo
open Go.Sort Go.RowKit Go.Proofs.YtmeodbjlmjpnbaaGreat.U.Gn
theorem eF (t:Lh)(p:Option Addr)(w:World)(h:aA w t p):Calls Tryz.prog 373 #[hp p] w fun e w'=>e=.returned (.int .i64 (t.size:Nat))∧Below w.heap.size w w':=by
 have hb1:Below w.heap.size w (w.alloc (.cells #[.pointer p] 127)):=bG _
 cases t with
 | nil =>
  obtain rfl:=h.no;go_enter Tryz.func373,Tryz.ntmps373
  go_wp2_with fail
  go_ret
  exact ⟨rfl,hb1⟩
 | node x q =>
  obtain ⟨b,s,o,rfl,hb, -, -,rfl⟩:=h.parts;obtain ⟨n,hn⟩:=aU ((Lh.node x (heaps o)).size);rw [←hn]at hb ⊢;have hk:=rT (W':=w.alloc (.cells #[.pointer (some ⟨b,0,none⟩)] 127)) hb (bO.below hb1);have c4:=hk.c4;have HB:=hdz hb1;clear hk hb hn hb1 h;go_enter Tryz.func373,Tryz.ntmps373
  go_wp2_with fail
  go_ret
  exact ⟨rfl,HB.out⟩
theorem uz {W:World}{g b:Nat}{cur cur':Array Value}{e e':TypeId}{z z':Nat×Nat}(hg:W.heap[g]?=some (.cells cur e z))(hb:W.heap[b]?=some (.cells cur' e' z'))(hne:e≠e'):¬g=b:=by
 rintro rfl;rw [hg]at hb
 cases hb
 exact hne rfl
structure Fm (W:World)(a:Nat)(p q:Option Addr):Prop where
 h:bJ W a p
 o:bJ W (a+1) q
 r:bJ W (a+2) none
theorem Fm.new (w:World)(p q:Option Addr):Fm (((w.alloc (.cells #[.pointer p] 127)).alloc (.cells #[.pointer q] 127)).alloc (.cells #[.pointer none] 127)) w.heap.size p q:=by
 refine ⟨?_,?_,?_⟩
 ·show _=_;rw [alloc_old _ (by simp only [World.size_alloc];omega),alloc_old _ (by simp only [World.size_alloc];omega)];exact aJ rfl
 ·show _=_;rw [alloc_old _ (by simp only [World.size_alloc];omega)];exact aJ (by simp)
 ·exact aJ (by simp)
theorem Ff (w:World)(o1 o2 o3:Obj):Below w.heap.size w (((w.alloc o1).alloc o2).alloc o3):=((bG _).alloc (by simp) _).alloc (by simp only [World.size_alloc];omega) _
theorem Dr (mo:Option Nat)(tb:Lh)(c m:Int)(pd:Option Addr)(w:World)(hm:aW w mo c m)(hb:aA w tb pd):Calls Tryz.prog 124 #[hp none,aF mo,hp pd] w (bU mo c m tb w):=by
 have hbe:=Ff w (.cells #[.pointer none] 127) (.cells #[.pointer pd] 127) (.cells #[.pointer pd] 127);have F:=Fm.new w none pd;have c0:=F.o.c0;have r0:=F.r.c0;have z0:=F.r.z0;have X:=hdz (af (hb.stay hbe) (af (hm.stay hbe) hbe));clear F hm hb hbe;go_enter Tryz.func124,Tryz.ntmps124
 go_wp2_with fail
 exact bodyPost_ret (v:=hp pd) (by simp [results,Tryz.results124,go_sem]) rfl ⟨_,rfl,X.out.1,X.out.2.1,Bt.aV X.out.2.2⟩
theorem zU (mo:Option Nat)(ta:Lh)(c m:Int)(b:Nat)(w:World)(hm:aW w mo c m)(hb:aA w ta (some ⟨b,0,none⟩)):Calls Tryz.prog 124 #[hp (some ⟨b,0,none⟩),aF mo,hp none] w (bU mo c m ta w):=by
 have hbe:=Ff w (.cells #[.pointer (some ⟨b,0,none⟩)] 127) (.cells #[.pointer none] 127) (.cells #[.pointer (some ⟨b,0,none⟩)] 127);have F:=Fm.new w (some ⟨b,0,none⟩) none;have c0:=F.h.c0;have r0:=F.r.c0;have z0:=F.r.z0;have X:=hdz (af (hb.stay hbe) (af (hm.stay hbe) hbe));clear F hm hb hbe;go_enter Tryz.func124,Tryz.ntmps124
 go_wp2_with fail
 exact bodyPost_ret (v:=hp (some ⟨b,0,none⟩)) (by simp [results,Tryz.results124,go_sem]) rfl ⟨_,rfl,X.out.1,X.out.2.1,Bt.aV X.out.2.2⟩
structure qb (W:World)(x:Int×Int)(o:Qh)(b:Nat)(s:Hp.HP)(n:Nat):Prop where
 blk:W.heap[b]?=some (bB x s (n:Int))
 q:Hp.aA W o s
 all:∀e∈o.all,kQ W e.h (some ⟨e.a,0,none⟩)
 size:n=(Lh.node x (heaps o)).size
 ok:(Lh.node x (heaps o)).ok
theorem qb.of {W:World}{x:Int×Int}{q:List (Gn.ai Lh)}{p:Option Addr}(h:aA W (.node x q) p):∃(o:Qh) (b:Nat) (s:Hp.HP) (n:Nat),q=heaps o∧p=some ⟨b,0,none⟩∧qb W x o b s n:=by
 obtain ⟨b,s,o,hp,hb,hq,hs,rfl⟩:=h.parts;exact ⟨o,b,s,_,rfl,hp,⟨hb,hq,hs,rfl,h.right⟩⟩
section
variable {W W':World}{x:Int×Int}{o:Qh}{b:Nat}{s:Hp.HP}{n:Nat}{mo:Option Nat}{c m:Int}
theorem qb.fQ (h:qb W x o b s n)(hk:Kp W W')(hs:W.heap.size≤W'.heap.size):qb W' x o b s n:=⟨hk _ _ _ (.inl (.inr (.inr (.inr rfl)))) h.blk,h.q.fQ hk hs,fun e he=>(h.all e he).fQ hk hs,h.size,h.ok⟩
theorem qb.stay (h:qb W x o b s n)(hb:Below W.heap.size W W'):qb W' x o b s n:=h.fQ (bO.below hb) hb.size
theorem qb.bt (h:qb W x o b s n)(hb:Bt mo W W')(hm:aW W mo c m):qb W' x o b s n:=h.fQ (hb.oG hm ax) hb.size
theorem qb.four (h:qb W x o b s n):Four W b x s (n:Int):=Bo.four h.blk
theorem qb.lies (h:qb W x o b s n):kQ W (.node x (heaps o)) (some ⟨b,0,none⟩) := .node (h.size▸h.blk) h.q h.all
theorem qb.key (h:qb W x o b s n):iI W ⟨.node x (heaps o),b⟩:=CU h.lies
theorem qb.qs (h:qb W x o b s n):o.size+1≤n:=by have:=xE h.ok;rw [h.size];exact this
end
theorem Ev {x y:Int×Int}{ox oy:Qh}(b:Nat)(hv:dH y x=true):bI (.node x (heaps ox)) (.node y (heaps oy))=.node y (heaps (oy.insert ⟨.node x (heaps ox),b⟩))∧rC (.node x (heaps ox)) (.node y (heaps oy))=oy.iJ+1∧qP (.node x (heaps ox)) (.node y (heaps oy))=oy.iF+1:=by
 refine ⟨by rw [fw hv,uo],?_,?_⟩
 ·show (if dH y x=true then _ else _)=_;rw [if_pos hv,(lW oy).1]
 ·show (if dH y x=true then _ else _)=_;rw [if_pos hv,(lW oy).2]
theorem Ed {x y:Int×Int}{ox oy:Qh}(b:Nat)(hv:dH y x=false):bI (.node x (heaps ox)) (.node y (heaps oy))=.node x (heaps (ox.insert ⟨.node y (heaps oy),b⟩))∧rC (.node x (heaps ox)) (.node y (heaps oy))=ox.iJ+1∧qP (.node x (heaps ox)) (.node y (heaps oy))=ox.iF+1:=by
 have hn:¬dH y x=true:=by simp [hv]
 refine ⟨by rw [iY hv,uo],?_,?_⟩
 ·show (if dH y x=true then _ else _)=_;rw [if_neg hn,(lW ox).1]
 ·show (if dH y x=true then _ else _)=_;rw [if_neg hn,(lW ox).2]
theorem Al (mo:Option Nat)(c m:Int)(x1 x2 y1 y2:Int)(ox oy:Qh)(p1 p2:Nat)(sx sy:Hp.HP)(nx ny:Nat)(w:World)(hs:nx+ny<134217728)(hm:aW w mo c m)(h0:0≤c)(h1:c<144115188075855872)(h2:0≤m)(h3:m<144115188075855872)
  (hx:qb w (x1,x2) ox p1 sx nx) (hy:qb w (y1,y2) oy p2 sy ny) (hv:dH (y1,y2) (x1,x2)=true) :
  Calls Tryz.prog 124 #[hp (some ⟨p1,0,none⟩),aF mo,hp (some ⟨p2,0,none⟩)] w (bU mo (c+rC (.node (x1,x2) (heaps ox)) (.node (y1,y2) (heaps oy))) (m+qP (.node (x1,x2) (heaps ox)) (.node (y1,y2) (heaps oy))) (bI (.node (x1,x2) (heaps ox)) (.node (y1,y2) (heaps oy))) w):=by
 obtain ⟨w1,hw1⟩:=aU (((w.alloc (.cells #[.pointer (some ⟨p1,0,none⟩)] 127)).alloc (.cells #[.pointer (some ⟨p2,0,none⟩)] 127)).alloc (.cells #[.pointer none] 127));have hb1:Below w.heap.size w w1:=by rw [hw1];exact Ff w _ _ _
 have F1:Fm w1 w.heap.size (some ⟨p1,0,none⟩) (some ⟨p2,0,none⟩):=by rw [hw1];exact Fm.new w _ _
 have HF:=hdz F1;have X:=hdz (af ((dL.refl (N:=au) hm).stay hb1) (Bt.refl mo w1));have HX:=hdz (hx.stay hb1);have HY:=hdz (hy.stay hb1);obtain ⟨iC,hiC⟩:=aU (oy.iJ);obtain ⟨iM,hiM⟩:=aU (oy.iF);have HI:=hdz (show iC=oy.iJ∧iM=oy.iF∧iC≤2∧iM≤2 from ⟨hiC,hiM,hiC▸Go.Proofs.YtmeodbjlmjpnbaaGreat.U.lD _,hiM▸Go.Proofs.YtmeodbjlmjpnbaaGreat.U.kZ _⟩);have eq:=Ev (x:=(x1,x2)) (y:=(y1,y2)) (ox:=ox) (oy:=oy) p1 hv;rw [←hiC,←hiM]at eq;rw [eq.1,eq.2.1,eq.2.2];have hok:(Lh.node (y1,y2) (heaps (oy.insert ⟨.node (x1,x2) (heaps ox),p1⟩))).ok:=eq.1▸gm _ _ hx.ok hy.ok;have hsz:(Lh.node (y1,y2) (heaps (oy.insert ⟨.node (x1,x2) (heaps ox),p1⟩))).size=nx+ny:=by rw [←eq.1,d9,hx.size,hy.size]
 obtain ⟨o5,ho5⟩:=aU (oy.insert ⟨.node (x1,x2) (heaps ox),p1⟩);rw [←ho5]at hok hsz ⊢;have HR:=hdz (af hok (af hsz ho5));have HN:=hdz (af hs (af h0 (af h1 (af h2 h3))));have HV:=hdz hv;have HW:=hdz hw1;clear hs h0 h1 h2 h3 F1 hb1 hm hw1 hx hy hv hiC hiM eq hok hsz ho5;go_enter Tryz.func124,Tryz.ntmps124
 go_wp2_with fail
 rw [←HW.out];obtain ⟨a,ha⟩:=aU (w.heap.size);rw [←ha]at HF ⊢;have HA:=hdz ha;clear ha HW
 have HS:=hdz (fun W (hz:Bt mo w1 W)=>(show W.cell? ⟨a,0,none⟩=some (.pointer (some ⟨p1,0,none⟩))∧W.cell? ⟨a+1,0,none⟩=some (.pointer (some ⟨p2,0,none⟩))∧Four W p1 (x1,x2) sx (nx:Int)∧Four W p2 (y1,y2) sy (ny:Int)∧bJ W (a+2) none from
  ⟨(HF.out.h.bt hz X.out.1.mt).c0,(HF.out.o.bt hz X.out.1.mt).c0,(HX.out.bt hz X.out.1.mt).four,(HY.out.bt hz X.out.1.mt).four,HF.out.r.bt hz X.out.1.mt⟩))
 have HQ:=hdz (fun W (hz:Bt mo w1 W)=>af (HX.out.bt hz X.out.1.mt) (HY.out.bt hz X.out.1.mt));have d1:¬p1=a+1+1:=uz HX.out.blk HF.out.r (by decide);have d2:¬p2=a+1+1:=uz HY.out.blk HF.out.r (by decide);have d3:¬a+1+1=p1:=fun e=>d1 e.symm;have d4:¬a+1+1=p2:=fun e=>d2 e.symm;clear HX HY HF;obtain ⟨f0,f1, -⟩:=HS.out _ X.out.2;go_region_held3 (fun w'=>w'.cell? ⟨a,0,none⟩=some (.pointer (some ⟨p1,0,none⟩))∧w'.cell? ⟨a+1,0,none⟩=some (.pointer (some ⟨p2,0,none⟩))) (go_keep) (fail)
 have X2:=hdz (af X.out.1.drew X.out.2.drew);clear X f0 f1;obtain ⟨w2,hw2⟩:=aU (w1.drew);rw [←hw2]at X2 ⊢;clear hw2;obtain ⟨f0,f1,k1,k2, -⟩:=HS.out _ X2.out.2;have x0:=k1.c0;have x1':=k1.c1;have y0:=k2.c0;have y1':=k2.c1;clear k1 k2;go_wp2_with fail
 go_region_held3 (fun w'=>w'.cell? ⟨a,0,none⟩=some (.pointer (some ⟨p1,0,none⟩))∧w'.cell? ⟨a+1,0,none⟩=some (.pointer (some ⟨p2,0,none⟩))∧w'.cell? ⟨p1,0,none⟩=some (.int .i64 x1)∧w'.cell? ⟨p1,1,none⟩=some (.int .i64 x2)∧w'.cell? ⟨p2,0,none⟩=some (.int .i64 y1)∧w'.cell? ⟨p2,1,none⟩=some (.int .i64 y2)) (go_keep)
  (first|(go_at_call 140;((with_reducible refine (lM mo c m (y1,y2) (x1,x2) _ X2.out.1.drew.mt HN.out.2.1 (by have:=HN.out;omega)).mono ?_);rintro e w3 ⟨rfl,hm3,hb3⟩;rw [HV.out];have X3:=hdz (af (X2.out.1.drew.turn hm3 hb3 ax) (X2.out.2.drew.trans hb3));obtain ⟨g0,g1,k1,k2, -⟩:=HS.out _ X3.out.2;have u0:=k1.c0;have u1:=k1.c1;have v0:=k2.c0;have v1:=k2.c1;clear hm3 hb3 k1 k2)))
 clear X2 f0 f1 x0 x1' y0 y1' u0 u1 v0 v1;go_wp2_with fail
 go_region_held3 (fun w'=>w'.cell? ⟨a,0,none⟩=some (.pointer (some ⟨p1,0,none⟩))∧w'.cell? ⟨a+1,0,none⟩=some (.pointer (some ⟨p2,0,none⟩))) (go_keep) (fail)
 have X4:=hdz (af X3.out.1.drew X3.out.2.drew);clear X3;generalize w3.drew=w4 at *;obtain ⟨-, -,k1,k2, -⟩:=HS.out _ X4.out.2;have v0:=k2.c0;have v1:=k2.c1;have v2:=k2.c2;have v3:=k2.c3;have v4:=k2.c4;have l4:=k1.c4;have ws:IntKind.i64.wrap ((ny:Int)+(nx:Int))=(ny:Int)+(nx:Int):=by have:=HN.out.1;rw [IntKind.wrap_i64];omega
 clear k1 k2;go_wp2_with fail
 go_region_held3 (fun w'=>w'.cell? ⟨p2,0,none⟩=some (.int .i64 y1)∧w'.cell? ⟨p2,1,none⟩=some (.int .i64 y2)∧w'.cell? ⟨p2,2,none⟩=some (.pointer sy.q)∧w'.cell? ⟨p2,3,none⟩=some (.int .i64 sy.n)∧w'.cell? ⟨p2,4,none⟩=some (.int .i64 (ny:Int))∧w'.cell? ⟨p1,4,none⟩=some (.int .i64 (nx:Int))) (go_keep)
  (first|(go_at_call 149;((with_reducible refine (Hp.di mo (c+1) m oy ⟨.node (x1,x2) (heaps ox),p1⟩ sy _ (HQ.out _ X4.out.2.drew).1.key (by have:=(HQ.out _ X4.out.2.drew).2.qs;have:=HN.out.1;omega) X4.out.1.drew.mt (by have:=HN.out;omega) (by have:=HN.out;omega) HN.out.2.2.2.1 (by have:=HN.out;omega) (HQ.out _ X4.out.2.drew).2.q).mono ?_);rintro e w5 ⟨q5,rfl,Ip,Im,hb5⟩;have X5:=hdz (af (X4.out.1.drew.turn Im hb5 ax) (X4.out.2.drew.trans hb5));have T5:=hdz (show Hp.aA w5 o5 q5 from HR.out.2.2.symm▸Ip);obtain ⟨-, -,k1,k2, -⟩:=HS.out _ X5.out.2;have i0:=k2.c0;have i1:=k2.c1;have i2:=k2.c2;have i3:=k2.c3;have i4:=k2.c4;have j4:=k1.c4;clear Ip Im hb5 k1 k2))|(go_at_call 123;((with_reducible refine (gX mo _ _ y1 y2 o5 q5 ((ny:Int)+(nx:Int)) _ (by rw [HR.out.2.1];omega) X5.out.1.mt (by have:=HI.out;have:=HN.out;omega) (by have:=HI.out;have:=HN.out;omega) T5.out (HR.out.2.2.symm▸vQ (HQ.out _ X5.out.2).2.all (HQ.out _ X5.out.2).1.lies) HR.out.1 (by rw [HR.out.2.1];have:=HN.out.1;omega)).mono ?_);rintro e w6 ⟨p6,rfl,Io,Iy,hb6⟩;have X6:=hdz (af (X5.out.1.turn Iy hb6 ax) (X5.out.2.trans hb6));have T6:=hdz Io;obtain ⟨-, -,k1,k2,R6⟩:=HS.out _ X6.out.2;have m0:=k2.c0;have m1:=k2.c1;have m2:=k2.c2;have m3:=k2.c3;have m4:=k2.c4;have n4:=k1.c4;have r6:=R6.c0;have z6:=R6.z0;have RR:=hdz R6;clear Io Iy hb6 k1 k2 R6)))
 go_wp2_with fail
 have hk:=X6.out.1.put RR.out aj (by decide) (by rw [←HA.out];omega) 0 (.pointer p6);have s0:=(RR.out.put p6).c0;exact bodyPost_ret (v:=hp p6) (by simp [results,Tryz.results124,go_sem,s0]) rfl ⟨p6,rfl,T6.out.wrote RR.out aj 0 _,by have:=HI.out;simpa [HI.out.1,HI.out.2.1,Int.add_assoc,Int.add_comm,Int.add_left_comm] using hk.mt,hk.bt⟩
theorem zR (mo:Option Nat)(c m:Int)(x1 x2 y1 y2:Int)(ox oy:Qh)(p1 p2:Nat)(sx sy:Hp.HP)(nx ny:Nat)(w:World)(hs:nx+ny<134217728)(hm:aW w mo c m)(h0:0≤c)(h1:c<144115188075855872)(h2:0≤m)(h3:m<144115188075855872)
  (hx:qb w (x1,x2) ox p1 sx nx) (hy:qb w (y1,y2) oy p2 sy ny) (hv:dH (y1,y2) (x1,x2)=false) :
  Calls Tryz.prog 124 #[hp (some ⟨p1,0,none⟩),aF mo,hp (some ⟨p2,0,none⟩)] w (bU mo (c+rC (.node (x1,x2) (heaps ox)) (.node (y1,y2) (heaps oy))) (m+qP (.node (x1,x2) (heaps ox)) (.node (y1,y2) (heaps oy))) (bI (.node (x1,x2) (heaps ox)) (.node (y1,y2) (heaps oy))) w):=by
 obtain ⟨w1,hw1⟩:=aU (((w.alloc (.cells #[.pointer (some ⟨p1,0,none⟩)] 127)).alloc (.cells #[.pointer (some ⟨p2,0,none⟩)] 127)).alloc (.cells #[.pointer none] 127));have hb1:Below w.heap.size w w1:=by rw [hw1];exact Ff w _ _ _
 have F1:Fm w1 w.heap.size (some ⟨p1,0,none⟩) (some ⟨p2,0,none⟩):=by rw [hw1];exact Fm.new w _ _
 have HF:=hdz F1;have X:=hdz (af ((dL.refl (N:=au) hm).stay hb1) (Bt.refl mo w1));have HX:=hdz (hx.stay hb1);have HY:=hdz (hy.stay hb1);obtain ⟨iC,hiC⟩:=aU (ox.iJ);obtain ⟨iM,hiM⟩:=aU (ox.iF);have HI:=hdz (show iC=ox.iJ∧iM=ox.iF∧iC≤2∧iM≤2 from ⟨hiC,hiM,hiC▸Go.Proofs.YtmeodbjlmjpnbaaGreat.U.lD _,hiM▸Go.Proofs.YtmeodbjlmjpnbaaGreat.U.kZ _⟩);have eq:=Ed (x:=(x1,x2)) (y:=(y1,y2)) (ox:=ox) (oy:=oy) p2 hv;rw [←hiC,←hiM]at eq;rw [eq.1,eq.2.1,eq.2.2];have hok:(Lh.node (x1,x2) (heaps (ox.insert ⟨.node (y1,y2) (heaps oy),p2⟩))).ok:=eq.1▸gm _ _ hx.ok hy.ok;have hsz:(Lh.node (x1,x2) (heaps (ox.insert ⟨.node (y1,y2) (heaps oy),p2⟩))).size=nx+ny:=by rw [←eq.1,d9,hx.size,hy.size]
 obtain ⟨o5,ho5⟩:=aU (ox.insert ⟨.node (y1,y2) (heaps oy),p2⟩);rw [←ho5]at hok hsz ⊢;have HR:=hdz (af hok (af hsz ho5));have HN:=hdz (af hs (af h0 (af h1 (af h2 h3))));have HV:=hdz hv;have HW:=hdz hw1;clear hs h0 h1 h2 h3 F1 hb1 hm hw1 hx hy hv hiC hiM eq hok hsz ho5;go_enter Tryz.func124,Tryz.ntmps124
 go_wp2_with fail
 rw [←HW.out];obtain ⟨a,ha⟩:=aU (w.heap.size);rw [←ha]at HF ⊢;have HA:=hdz ha;clear ha HW
 have HS:=hdz (fun W (hz:Bt mo w1 W)=>(show W.cell? ⟨a,0,none⟩=some (.pointer (some ⟨p1,0,none⟩))∧W.cell? ⟨a+1,0,none⟩=some (.pointer (some ⟨p2,0,none⟩))∧Four W p1 (x1,x2) sx (nx:Int)∧Four W p2 (y1,y2) sy (ny:Int)∧bJ W (a+2) none from
  ⟨(HF.out.h.bt hz X.out.1.mt).c0,(HF.out.o.bt hz X.out.1.mt).c0,(HX.out.bt hz X.out.1.mt).four,(HY.out.bt hz X.out.1.mt).four,HF.out.r.bt hz X.out.1.mt⟩))
 have HQ:=hdz (fun W (hz:Bt mo w1 W)=>af (HX.out.bt hz X.out.1.mt) (HY.out.bt hz X.out.1.mt));have d1:¬p1=a+1+1:=uz HX.out.blk HF.out.r (by decide);have d2:¬p2=a+1+1:=uz HY.out.blk HF.out.r (by decide);have d3:¬a+1+1=p1:=fun e=>d1 e.symm;have d4:¬a+1+1=p2:=fun e=>d2 e.symm;clear HX HY HF;obtain ⟨f0,f1, -⟩:=HS.out _ X.out.2;go_region_held3 (fun w'=>w'.cell? ⟨a,0,none⟩=some (.pointer (some ⟨p1,0,none⟩))∧w'.cell? ⟨a+1,0,none⟩=some (.pointer (some ⟨p2,0,none⟩))) (go_keep) (fail)
 have X2:=hdz (af X.out.1.drew X.out.2.drew);clear X f0 f1;obtain ⟨w2,hw2⟩:=aU (w1.drew);rw [←hw2]at X2 ⊢;clear hw2;obtain ⟨f0,f1,k1,k2, -⟩:=HS.out _ X2.out.2;have x0:=k1.c0;have x1':=k1.c1;have y0:=k2.c0;have y1':=k2.c1;clear k1 k2;go_wp2_with fail
 go_region_held3 (fun w'=>w'.cell? ⟨a,0,none⟩=some (.pointer (some ⟨p1,0,none⟩))∧w'.cell? ⟨a+1,0,none⟩=some (.pointer (some ⟨p2,0,none⟩))∧w'.cell? ⟨p1,0,none⟩=some (.int .i64 x1)∧w'.cell? ⟨p1,1,none⟩=some (.int .i64 x2)∧w'.cell? ⟨p2,0,none⟩=some (.int .i64 y1)∧w'.cell? ⟨p2,1,none⟩=some (.int .i64 y2)) (go_keep)
  (first|(go_at_call 140;((with_reducible refine (lM mo c m (y1,y2) (x1,x2) _ X2.out.1.drew.mt HN.out.2.1 (by have:=HN.out;omega)).mono ?_);rintro e w3 ⟨rfl,hm3,hb3⟩;rw [HV.out];have X3:=hdz (af (X2.out.1.drew.turn hm3 hb3 ax) (X2.out.2.drew.trans hb3));obtain ⟨g0,g1,k1,k2, -⟩:=HS.out _ X3.out.2;have u0:=k1.c0;have u1:=k1.c1;have v0:=k2.c0;have v1:=k2.c1;clear hm3 hb3 k1 k2)))
 clear X2 f0 f1 x0 x1' y0 y1' u0 u1 v0 v1;go_wp2_with fail
 have X4:=X3;clear X3;obtain ⟨-, -,k1,k2, -⟩:=HS.out _ X4.out.2;have v0:=k1.c0;have v1:=k1.c1;have v2:=k1.c2;have v3:=k1.c3;have v4:=k1.c4;have l4:=k2.c4;have ws:IntKind.i64.wrap ((nx:Int)+(ny:Int))=(nx:Int)+(ny:Int):=by have:=HN.out.1;rw [IntKind.wrap_i64];omega
 clear k1 k2;go_wp2_with fail
 go_region_held3 (fun w'=>w'.cell? ⟨p1,0,none⟩=some (.int .i64 x1)∧w'.cell? ⟨p1,1,none⟩=some (.int .i64 x2)∧w'.cell? ⟨p1,2,none⟩=some (.pointer sx.q)∧w'.cell? ⟨p1,3,none⟩=some (.int .i64 sx.n)∧w'.cell? ⟨p1,4,none⟩=some (.int .i64 (nx:Int))∧w'.cell? ⟨p2,4,none⟩=some (.int .i64 (ny:Int))) (go_keep)
  (first|(go_at_call 149;((with_reducible refine (Hp.di mo (c+1) m ox ⟨.node (y1,y2) (heaps oy),p2⟩ sx _ (HQ.out _ X4.out.2.drew).2.key (by have:=(HQ.out _ X4.out.2.drew).1.qs;have:=HN.out.1;omega) X4.out.1.drew.mt (by have:=HN.out;omega) (by have:=HN.out;omega) HN.out.2.2.2.1 (by have:=HN.out;omega) (HQ.out _ X4.out.2.drew).1.q).mono ?_);rintro e w5 ⟨q5,rfl,Ip,Im,hb5⟩;have X5:=hdz (af (X4.out.1.drew.turn Im hb5 ax) (X4.out.2.drew.trans hb5));have T5:=hdz (show Hp.aA w5 o5 q5 from HR.out.2.2.symm▸Ip);obtain ⟨-, -,k1,k2, -⟩:=HS.out _ X5.out.2;have i0:=k1.c0;have i1:=k1.c1;have i2:=k1.c2;have i3:=k1.c3;have i4:=k1.c4;have j4:=k2.c4;clear Ip Im hb5 k1 k2))|(go_at_call 123;((with_reducible refine (gX mo _ _ x1 x2 o5 q5 ((nx:Int)+(ny:Int)) _ (by rw [HR.out.2.1];omega) X5.out.1.mt (by have:=HI.out;have:=HN.out;omega) (by have:=HI.out;have:=HN.out;omega) T5.out (HR.out.2.2.symm▸vQ (HQ.out _ X5.out.2).1.all (HQ.out _ X5.out.2).2.lies) HR.out.1 (by rw [HR.out.2.1];have:=HN.out.1;omega)).mono ?_);rintro e w6 ⟨p6,rfl,Io,Iy,hb6⟩;have X6:=hdz (af (X5.out.1.turn Iy hb6 ax) (X5.out.2.trans hb6));have T6:=hdz Io;obtain ⟨-, -,k1,k2,R6⟩:=HS.out _ X6.out.2;have m0:=k1.c0;have m1:=k1.c1;have m2:=k1.c2;have m3:=k1.c3;have m4:=k1.c4;have n4:=k2.c4;have r6:=R6.c0;have z6:=R6.z0;have RR:=hdz R6;clear Io Iy hb6 k1 k2 R6)))
 go_wp2_with fail
 have hk:=X6.out.1.put RR.out aj (by decide) (by rw [←HA.out];omega) 0 (.pointer p6);have s0:=(RR.out.put p6).c0;exact bodyPost_ret (v:=hp p6) (by simp [results,Tryz.results124,go_sem,s0]) rfl ⟨p6,rfl,T6.out.wrote RR.out aj 0 _,by have:=HI.out;simpa [HI.out.1,HI.out.2.1,Int.add_assoc,Int.add_comm,Int.add_left_comm] using hk.mt,hk.bt⟩
theorem eT (mo:Option Nat)(ta tb:Lh)(c m:Int)(p pd:Option Addr)(w:World)(hs:ta.size+tb.size<134217728)(hm:aW w mo c m)(h0:0≤c)(h1:c<144115188075855872)(h2:0≤m)(h3:m<144115188075855872)
  (ha:aA w ta p) (hb:aA w tb pd):Calls Tryz.prog 124 #[hp p,aF mo,hp pd] w (bU mo (c+rC ta tb) (m+qP ta tb) (bI ta tb) w):=by
 cases ta with
 | nil =>
  obtain rfl:=ha.no;have:=Dr mo tb c m pd w hm hb;simpa [rC,qP,jA] using this
 | node x qx =>
  obtain ⟨x1,x2⟩:=x;obtain ⟨ox,p1,sx,nx,rfl,rfl,hx⟩:=qb.of ha
  cases tb with
  | nil =>
   obtain rfl:=hb.no;have:=zU mo _ c m p1 w hm ha;rw [fT];simpa [rC,qP] using this
  | node y qy =>
   obtain ⟨y1,y2⟩:=y;obtain ⟨oy,p2,sy,ny,rfl,rfl,hy⟩:=qb.of hb;rw [←hx.size,←hy.size]at hs
   cases hv:dH (y1,y2) (x1,x2) with
   | true=>exact Al mo c m x1 x2 y1 y2 ox oy p1 p2 sx sy nx ny w hs hm h0 h1 h2 h3 hx hy hv
   | false=>exact zR mo c m x1 x2 y1 y2 ox oy p1 p2 sx sy nx ny w hs hm h0 h1 h2 h3 hx hy hv
structure Fi (W:World)(a:Nat)(p:Option Addr)(x:Int×Int):Prop where
 h:bJ W a p
 e:cZ W (a+1) x
 r:bJ W (a+2) none
theorem Fi.new (w:World)(p:Option Addr)(x1 x2:Int):Fi (((w.alloc (.cells #[.pointer p] 127)).alloc (.cells #[.int .i64 x1,.int .i64 x2] 29)).alloc (.cells #[.pointer none] 127)) w.heap.size p (x1,x2):=by
 refine ⟨?_,?_,?_⟩
 ·show _=_;rw [alloc_old _ (by simp only [World.size_alloc];omega),alloc_old _ (by simp only [World.size_alloc];omega)];exact aJ rfl
 ·show _=_;rw [alloc_old _ (by simp only [World.size_alloc];omega)];exact aJ (by simp)
 ·exact aJ (by simp)
theorem di (mo:Option Nat)(c m:Int)(h:Lh)(x:Int×Int)(p:Option Addr)(w:World)(hs:h.size<134217727)(hm:aW w mo c m)(h0:0≤c)(h1:c<144115188075855871)(h2:0≤m)(h3:m<144115188075855871)
  (hh:aA w h p):Calls Tryz.prog 95 #[hp p,aF mo,el x] w (bU mo (c+h.iJ x) (m+h.iF x) (h.insert x) w):=by
 obtain ⟨x1,x2⟩:=x;obtain ⟨w1,hw1⟩:=aU (((w.alloc (.cells #[.pointer p] 127)).alloc (.cells #[.int .i64 x1,.int .i64 x2] 29)).alloc (.cells #[.pointer none] 127));have hb1:Below w.heap.size w w1:=by rw [hw1];exact Ff w _ _ _
 have F1:Fi w1 w.heap.size p (x1,x2):=by rw [hw1];exact Fi.new w p x1 x2
 have HF:=hdz F1;have X:=hdz (af ((dL.refl (N:=au) hm).stay hb1) (Bt.refl mo w1));have HH:=hdz (hh.stay hb1);have HN:=hdz (af hs (af h0 (af h1 (af h2 h3))));obtain ⟨iC,hiC⟩:=aU (rC (.one (x1,x2)) h);obtain ⟨iM,hiM⟩:=aU (qP (.one (x1,x2)) h);have HI:=hdz (show h.iJ (x1,x2)=iC∧h.iF (x1,x2)=iM+1 from ⟨hiC.symm,by rw [hiM];rfl⟩)
 have HB:=hdz (fun W (k:aW W mo c m)=>show Calls Tryz.prog 123 #[aF mo,.agg #[.int .i64 x1,.int .i64 x2,.pointer none,.int .i64 0,.int .i64 1]] W (bU mo c (m+1) (.one (x1,x2)) W) from
  gX mo c m x1 x2 .nil ⟨none,0⟩ 1 W (show (1:Int)=((Lh.one (x1,x2)).size:Nat) by rw [iL];rfl) k h2 (by omega) (Hp.aA.nil _) (fun b hb=>absurd (show b∈([]:List aN) from hb) (by simp)) (nU (x1,x2)) (show (Lh.one (x1,x2)).size≤268435456 by rw [iL];omega))
 have HM:=hdz (fun pa W (k1:aW W mo c (m+1)) (k2:aA W (.one (x1,x2)) pa) (k3:aA W h p)=>hiM▸hiC▸eT mo (.one (x1,x2)) h c (m+1) pa p W (by rw [iL];omega) k1 h0 (by omega) (by omega) (by omega) k2 k3);have HW:=hdz hw1;clear hs h0 h1 h2 h3 F1 hb1 hm hw1 hh hiC hiM;go_enter Tryz.func95,Tryz.ntmps95
 go_wp2_with fail
 rw [←HW.out];obtain ⟨a,ha⟩:=aU (w.heap.size);rw [←ha]at HF ⊢;have HA:=hdz ha;clear ha HW
 have HS:=hdz (fun W (hz:Bt mo w1 W)=>(show W.cell? ⟨a,0,none⟩=some (.pointer p)∧W.cell? ⟨a+1,0,none⟩=some (.int .i64 x1)∧W.cell? ⟨a+1,1,none⟩=some (.int .i64 x2)∧bJ W (a+2) none∧aA W h p from
  ⟨(HF.out.h.bt hz X.out.1.mt).c0,(HF.out.e.bt hz X.out.1.mt).c0,(HF.out.e.bt hz X.out.1.mt).c1,HF.out.r.bt hz X.out.1.mt,HH.out.bt hz X.out.1.mt⟩))
 have d1:¬a=a+1+1:=by omega
 have d2:¬a+1+1=a:=by omega
 have d3:¬a+1=a+1+1:=by omega
 have d4:¬a+1+1=a+1:=by omega
 clear HF HH;obtain ⟨f0,f1,f2, -⟩:=HS.out _ X.out.2
 go_region_held3 (fun w'=>w'.cell? ⟨a,0,none⟩=some (.pointer p)∧w'.cell? ⟨a+1,0,none⟩=some (.int .i64 x1)∧w'.cell? ⟨a+1,1,none⟩=some (.int .i64 x2)) (go_keep)
  (first|(go_at_call 123;((with_reducible refine (HB.out _ X.out.1.drew.mt).mono ?_);rintro e w2 ⟨p2,rfl,ht2,hm2,hb2⟩;have X2:=hdz (af (X.out.1.drew.turn hm2 hb2 ax) (X.out.2.drew.trans hb2));have T2:=hdz (show aA w2 (.one (x1,x2)) p2 from ht2);obtain ⟨i0,i1,i2, -⟩:=HS.out _ X2.out.2;clear ht2 hm2 hb2))|(go_at_call 124;((with_reducible refine (HM.out p2 _ X2.out.1.mt T2.out (HS.out _ X2.out.2).2.2.2.2).mono ?_);rintro e w3 ⟨p3,rfl,ht3,hm3,hb3⟩;have X3:=hdz (af (X2.out.1.turn hm3 hb3 ax) (X2.out.2.trans hb3));have T3:=hdz ht3;obtain ⟨j0,j1,j2,R3, -⟩:=HS.out _ X3.out.2;have r6:=R3.c0;have z6:=R3.z0;have RR:=hdz R3;clear ht3 hm3 hb3 R3)))
 go_wp2_with fail
 have hk:=X3.out.1.put RR.out aj (by decide) (by rw [←HA.out];omega) 0 (.pointer p3);have s0:=(RR.out.put p3).c0;exact bodyPost_ret (v:=hp p3) (by simp [results,Tryz.results95,go_sem,s0]) rfl ⟨p3,rfl,T3.out.wrote RR.out aj 0 _,by rw [HI.out.1,HI.out.2];simpa [Int.add_assoc,Int.add_comm,Int.add_left_comm] using hk.mt,hk.bt⟩
theorem oh:∀{l:List Lh} {b:Lh},b∈l→b.size≤sizes l
 | [],_,h=>by cases h
 | d::l,b,h=>by
  rw [jr];rcases List.mem_cons.1 h with rfl|h
  ·omega
  ·have:=oh h;omega
theorem qb.least {W:World}{x:Int×Int}{o:Qh}{b:Nat}{s:Hp.HP}{n:Nat}(h:qb W x o b s n)(hs:n≤268435456)(hne:o.ts≠[]):∃(f:Int×Int) (fo:Qh) (fs:Hp.HP) (fn:Nat),o.min.1.h=.node f (heaps fo)∧qb W f fo o.min.1.a fs fn∧fn+1≤n:=by
 have hl:=(Ai h.all hne).1;have hmem:o.min.1∈o.all:=(Gn.jU hne).symm.subset (List.mem_cons_self ..);have hin:o.min.1.h∈Gn.aR (heaps o):=by rw [vF];exact List.mem_map_of_mem hmem
 have hok:=h.ok
 cases hok with|node hq hb hn=>?_
 have hsm:=oh hin;have hsz:=rM x (heaps o);rw [←h.size]at hsz;have e:=rO (hn _ hin).1;rw [e]at hl hsm;obtain ⟨fo,fb,fs,fn,hq2,ha,hN⟩:=qb.of (W:=W) (x:=o.min.1.h.key) (q:=o.min.1.h.queue) ⟨hl,e▸hb _ hin,by omega⟩;refine ⟨o.min.1.h.key,fo,fs,fn,by rw [←hq2];exact e,?_,by have:=hN.size;rw [←hq2]at this;omega⟩
 cases ha
 exact hN
theorem CZ {x f:Int×Int}{o fo:Qh}(hne:o.ts≠[])(hf:o.min.1.h=.node f (heaps fo)):(Lh.node x (heaps o)).pop=.node f (heaps (Go.Proofs.YtmeodbjlmjpnbaaGreat.U.bI fo o.pop))∧(Lh.node x (heaps o)).jf=o.bT+(o.jf+o.bT)+Go.Proofs.YtmeodbjlmjpnbaaGreat.U.aQ fo o.pop∧(Lh.node x (heaps o)).jl=o.jl+Go.Proofs.YtmeodbjlmjpnbaaGreat.U.aQ fo o.pop+1:=by
 have hl:=zZ hne;rw [hf]at hl;obtain ⟨p1,p2,p3⟩:=Dz o;obtain ⟨m1,m2⟩:=BI fo o.pop;have hlen:=DN o;obtain ⟨ts⟩:=o
 cases ts with
 | nil=>exact (hne rfl).elim
 | cons t r =>
  refine ⟨?_,?_,?_⟩
  ·show Lh.node (least (heaps ⟨t::r⟩)).key (Gn.nu (least (heaps ⟨t::r⟩)).queue (Gn.nK (heaps ⟨t::r⟩)))=_;rw [hl,m1,p1];rfl
  ·show (r.map (Gn.ai.map aN.h)).length+(Gn.qG (heaps ⟨t::r⟩)+(r.map (Gn.ai.map aN.h)).length)+Gn.fO (least (heaps ⟨t::r⟩)).queue (Gn.nK (heaps ⟨t::r⟩))=_;rw [hl,m2,p2,p1,List.length_map];rfl
  ·show Gn.qH (heaps ⟨t::r⟩)+Gn.fO (least (heaps ⟨t::r⟩)).queue (Gn.nK (heaps ⟨t::r⟩))+1=_;rw [hl,m2,p3,p1];rfl
def gP (mo:Option Nat)(c m:Int)(t:Lh)(is:Bool)(w:World)(e:Ending)(w':World):Prop:=∃p,e=.returned (.tuple #[hp p,.bool is])∧aA w' t p∧aW w' mo c m∧Bt mo w w'
theorem new2 (w:World)(o1 o2:Obj):Below w.heap.size w ((w.alloc o1).alloc o2):=(bG _).alloc (by simp) _
structure Fp (W:World)(a:Nat)(p:Option Addr):Prop where
 h:bJ W a p
 r:bJ W (a+1) none
theorem Fp.new (w:World)(p:Option Addr):Fp ((w.alloc (.cells #[.pointer p] 127)).alloc (.cells #[.pointer none] 127)) w.heap.size p:=by
 refine ⟨?_,aJ (by simp)⟩;show _=_;rw [alloc_old _ (by simp only [World.size_alloc];omega)];exact aJ rfl
def iZ (W:World)(b:Nat)(q:Hp.HP):Prop:=W.heap[b]?=some (.cells #[.pointer q.q,.int .i64 q.n] 257 (0,0))
section
variable {W W':World}{b:Nat}{q:Hp.HP}{mo:Option Nat}{c m:Int}
theorem iZ.bt (h:iZ W b q)(hb:Bt mo W W')(hm:aW W mo c m):iZ W' b q:=hb.row hm h (by decide)
theorem iZ.c0 (h:iZ W b q):W.cell? ⟨b,0,none⟩=some (.pointer q.q):=by unfold iZ at h;simp [World.cell?,h]
theorem iZ.c1 (h:iZ W b q):W.cell? ⟨b,1,none⟩=some (.int .i64 q.n):=by unfold iZ at h;simp [World.cell?,h]
end
theorem FD (mo:Option Nat)(c m:Int)(w:World)(hm:aW w mo c m):Calls Tryz.prog 372 #[hp none,aF mo] w (gP mo c m .nil false w):=by
 have hbe:=new2 w (.cells #[.pointer none] 127) (.cells #[.pointer none] 127);have F:=Fp.new w none;have c0:=F.h.c0;have r0:=F.r.c0;have z0:=F.r.z0;have X:=hdz (af (hm.stay hbe) hbe);clear F hm hbe;go_enter Tryz.func372,Tryz.ntmps372
 go_wp2_with fail
 exact bodyPost_ret (v := .tuple #[hp none,.bool false]) (by simp [results,Tryz.results372,go_sem]) rfl ⟨_,rfl,aA.none _,X.out.1,Bt.aV X.out.2⟩
theorem Gb (mo:Option Nat)(c m:Int)(x1 x2:Int)(b:Nat)(s:Hp.HP)(n:Nat)(w:World)(hm:aW w mo c m)(h0:0≤c)(h1:c<72057594037927936)(hx:qb w (x1,x2) ⟨[]⟩ b s n) :
  Calls Tryz.prog 372 #[hp (some ⟨b,0,none⟩),aF mo] w (gP mo c m .nil true w):=by
 have hb1:=new2 w (.cells #[.pointer (some ⟨b,0,none⟩)] 127) (.cells #[.pointer none] 127);have F:=Fp.new w (some ⟨b,0,none⟩);have HF:=hdz F;have X:=hdz ((dL.refl (N:=au) hm).stay hb1);have HX:=hdz (hx.stay hb1);have k:=HX.out.four;have f0:=F.h.c0;have g2:=k.c2;have g3:=k.c3;have HN:=hdz (af h0 h1);clear F k hm h0 h1 hx hb1;go_enter Tryz.func372,Tryz.ntmps372
 go_wp2_with fail
 generalize (w.alloc (.cells #[.pointer (some ⟨b,0,none⟩)] 127)).alloc (.cells #[.pointer none] 127)=w1 at *;obtain ⟨a,ha⟩:=aU (w.heap.size);rw [←ha]at HF f0 ⊢;have HA:=hdz ha;clear ha;((with_reducible refine (Hp.iX mo c m ⟨[]⟩ s w1 X.out.mt HN.out.1 (by have:=HN.out;omega) HX.out.q).mono ?_);rintro e w2 ⟨rfl,hm2,hb2⟩);rw [show Hp.fH ⟨[]⟩=.tuple #[.pointer none,.bool false] from rfl];have R2:=hdz (HF.out.r.bt hb2 X.out.mt);have X2:=hdz (X.out.turn hm2 hb2 ax);have r6:=R2.out.c0;have z6:=R2.out.z0;clear f0 g2 g3 hm2 hb2;go_wp2_with fail
 have hk:=X2.out.put R2.out aj (by decide) (by rw [←HA.out];omega) 0 (.pointer none);have s0:=(R2.out.put none).c0;exact bodyPost_ret (v := .tuple #[hp none,.bool true]) (by simp [results,Tryz.results372,go_sem,s0]) rfl ⟨none,rfl,aA.none _,by simpa [Lh.bT] using hk.mt,hk.bt⟩
theorem ED (mo:Option Nat)(c m:Int)(x1 x2 f1 f2:Int)(o fo:Qh)(b fa:Nat)(s fs:Hp.HP)(n fn:Nat)(w:World)(hs:n<134217728)(hfn:fn+1≤n)(hm:aW w mo c m)(h0:0≤c)(h1:c<72057594037927936)(h2:0≤m)(h3:m<72057594037927936)
  (hx:qb w (x1,x2) o b s n) (hne:o.ts≠[]) (hmin:Hp.fH o=.tuple #[.pointer (some ⟨fa,0,none⟩),.bool true]) (hf:o.min.1.h=.node (f1,f2) (heaps fo)) (hF:qb w (f1,f2) fo fa fs fn) (hlies:∀e∈o.pop.all,kQ w e.h (some ⟨e.a,0,none⟩)) :
  Calls Tryz.prog 372 #[hp (some ⟨b,0,none⟩),aF mo] w (gP mo (c+(Lh.node (x1,x2) (heaps o)).jf) (m+(Lh.node (x1,x2) (heaps o)).jl) (Lh.node (x1,x2) (heaps o)).pop true w):=by
 have hb1:=new2 w (.cells #[.pointer (some ⟨b,0,none⟩)] 127) (.cells #[.pointer none] 127);have F:=Fp.new w (some ⟨b,0,none⟩);have HF:=hdz F;have X:=hdz ((dL.refl (N:=au) hm).stay hb1);have HX:=hdz (hx.stay hb1);have HG:=hdz (af (hF.stay hb1) (fun e he=>(hlies e he).stay hb1));have k:=HX.out.four;have f0:=F.h.c0;have g2:=k.c2;have g3:=k.c3;obtain ⟨t,ht⟩:=aU (o.bT);obtain ⟨pC,hpC⟩:=aU (o.jf+o.bT);obtain ⟨pM,hpM⟩:=aU (o.jl);obtain ⟨mN,hmN⟩:=aU (Go.Proofs.YtmeodbjlmjpnbaaGreat.U.aQ fo o.pop);obtain ⟨is,his⟩:=aU (o.some);obtain ⟨e1,e2,e3⟩:=CZ (x:=(x1,x2)) hne hf;have hq:=hx.qs;have hqf:=hF.qs;have hps:=Go.Proofs.YtmeodbjlmjpnbaaGreat.U.xq o;have hpc:=Go.Proofs.YtmeodbjlmjpnbaaGreat.U.lN o;have hts:=Go.Proofs.YtmeodbjlmjpnbaaGreat.U.kz o;have hms:=Go.Proofs.YtmeodbjlmjpnbaaGreat.U.kF fo o.pop;have HI:=hdz (show t=o.bT∧pC=o.jf+o.bT∧pM=o.jl∧mN=Go.Proofs.YtmeodbjlmjpnbaaGreat.U.aQ fo o.pop∧is=o.some∧t<134217728∧pC<536870912∧pM<536870912∧mN<536870912∧o.size<134217728∧fo.size+o.pop.size<268435456 from ⟨ht,hpC,hpM,hmN,his,by omega,by omega,by omega,by omega,by omega,by omega⟩);have hok:=nP hx.ok;have hsz:=Bo.xq hx.ok;rw [←hx.size]at hsz;rw [e1]at hok hsz;rw [e1,e2,e3,←ht,←hpM,←hmN,show o.jf+t=pC from by rw [hpC,ht]];have HR:=hdz (af hok (af hsz hmin));have HN:=hdz (af hs (af h0 (af h1 (af h2 h3))));clear F k hm hs h0 h1 h2 h3 hx hb1 hF hlies e1 e2 e3 ht hpC hpM hmN his hq hqf hps hpc hts hms hok hsz hmin hf hne hfn;go_enter Tryz.func372,Tryz.ntmps372
 go_wp2_with fail
 generalize (w.alloc (.cells #[.pointer (some ⟨b,0,none⟩)] 127)).alloc (.cells #[.pointer none] 127)=w1 at *;obtain ⟨a,ha⟩:=aU (w.heap.size);rw [←ha]at HF f0 ⊢;have HA:=hdz ha;clear ha
 have HS:=hdz (fun W (hz:Bt mo w1 W)=>(show W.cell? ⟨a,0,none⟩=some (.pointer (some ⟨b,0,none⟩))∧qb W (x1,x2) o b s n∧qb W (f1,f2) fo fa fs fn∧bJ W (a+1) none ∧ ∀e∈o.pop.all,kQ W e.h (some ⟨e.a,0,none⟩) from
  ⟨(HF.out.h.bt hz X.out.mt).c0,HX.out.bt hz X.out.mt,HG.out.1.bt hz X.out.mt,HF.out.r.bt hz X.out.mt,fun e he=>(HG.out.2 e he).fQ (hz.oG X.out.mt ax) hz.size⟩))
 have d1:¬a=a+1:=by omega
 have d2:¬a+1=a:=by omega
 have d3:¬b=a+1:=uz HX.out.blk HF.out.r (by decide);have d4:¬a+1=b:=fun e=>d3 e.symm;have d5:¬fa=a+1:=uz HG.out.1.blk HF.out.r (by decide);have d6:¬a+1=fa:=fun e=>d5 e.symm;have HAL:=hdz (show a+1<w1.heap.size from lt_of_heap HF.out.r);clear HF HG;((with_reducible refine (Hp.iX mo c m o s w1 X.out.mt HN.out.2.1 (by have:=HN.out;omega) HX.out.q).mono ?_);rintro e w2 ⟨rfl,hm2,hb2⟩);rw [HR.out.2.2];have X2:=hdz (af (X.out.turn (HI.out.1.symm▸hm2) hb2 ax) hb2);clear f0 g2 g3 hm2 hb2 HX X;obtain ⟨f0,k1, -⟩:=HS.out _ X2.out.2;have g2:=k1.four.c2;have g3:=k1.four.c3;clear k1;go_wp2_with fail
 ((with_reducible refine (Hp.jb mo (c+t) m o s w2 HI.out.2.2.2.2.2.2.2.2.2.1 X2.out.1.mt (by have:=HN.out;omega) (by have:=HN.out;have:=HI.out;omega) HN.out.2.2.2.1 (by have:=HN.out;omega) (HS.out _ X2.out.2).2.1.q).mono ?_);rintro e w3 ⟨p3,rfl,ht3,hm3,hb3⟩);rw [←HI.out.2.2.2.2.1];have X3:=hdz (af (X2.out.1.turn (HI.out.2.1.symm▸HI.out.2.2.1.symm▸hm3) hb3 ax) (X2.out.2.trans hb3));have T3:=hdz ht3;clear f0 g2 g3 ht3 hm3 hb3 X2;go_wp2_with fail
 have hal:Below w3.heap.size w3 (w3.alloc (.cells #[.pointer p3.q,.int .i64 p3.n] 257)):=bG _;have X4:=hdz (af (X3.out.1.stay hal) (X3.out.2.trans (Bt.aV hal)));have T4:=hdz (T3.out.stay hal);have V4:=hdz (show iZ (w3.alloc (.cells #[.pointer p3.q,.int .i64 p3.n] 257)) w3.heap.size p3 from aJ rfl);have HVL:=hdz (show a+1<w3.heap.size from Nat.lt_of_lt_of_le HAL.out X3.out.2.size);clear hal X3 T3;generalize w3.alloc (.cells #[.pointer p3.q,.int .i64 p3.n] 257)=w4 at *;obtain ⟨v,hv⟩:=aU (w3.heap.size);rw [←hv]at V4 HVL ⊢;clear hv;have d7:¬v=a+1:=by have:=HVL.out;omega
 have d8:¬a+1=v:=by have:=HVL.out;omega
 obtain ⟨f0,k1,k2, -⟩:=HS.out _ X4.out.2;have b4:=k1.four.c4;have g0:=k2.four.c0;have g1:=k2.four.c1;have g2:=k2.four.c2;have g3:=k2.four.c3;have v0:=V4.out.c0;have v1:=V4.out.c1;have ws:IntKind.i64.wrap ((n:Int) - 1)=(n:Int) - 1:=by have:=HN.out.1;rw [IntKind.wrap_i64];omega
 clear k1 k2
 go_region_held3 (fun w'=>w'.cell? ⟨a,0,none⟩=some (.pointer (some ⟨b,0,none⟩))∧w'.cell? ⟨b,4,none⟩=some (.int .i64 (n:Int))∧w'.cell? ⟨fa,0,none⟩=some (.int .i64 f1)∧w'.cell? ⟨fa,1,none⟩=some (.int .i64 f2)∧w'.cell? ⟨fa,2,none⟩=some (.pointer fs.q)∧w'.cell? ⟨fa,3,none⟩=some (.int .i64 fs.n)∧w'.cell? ⟨v,0,none⟩=some (.pointer p3.q)∧w'.cell? ⟨v,1,none⟩=some (.int .i64 p3.n)) (go_keep)
  (first|(go_at_call 330;((with_reducible refine (Hp.eT mo fo o.pop (c+t+pC) (m+pM) fs p3 _ HI.out.2.2.2.2.2.2.2.2.2.2 X4.out.1.drew.mt (by have:=HN.out;omega) (by have:=HN.out;have:=HI.out;omega) (by have:=HN.out;omega) (by have:=HN.out;have:=HI.out;omega) (HS.out _ X4.out.2.drew).2.2.1.q (T4.out.stay ((Below.refl _ _).drew))).mono ?_);rintro e w5 ⟨p5,rfl,Ip,Im,hb5⟩;have X5:=hdz (af (X4.out.1.drew.turn (HI.out.2.2.2.1.symm▸Im) hb5 ax) (X4.out.2.drew.trans hb5));have V5:=hdz ((show iZ w4.drew v p3 from (((Below.refl w4.heap.size w4).drew).block _ (lt_of_heap V4.out)).trans V4.out).bt hb5 X4.out.1.drew.mt);have T5:=hdz Ip;obtain ⟨i0,k1,k2, -⟩:=HS.out _ X5.out.2;have ib4:=k1.four.c4;have ig0:=k2.four.c0;have ig1:=k2.four.c1;have ig2:=k2.four.c2;have ig3:=k2.four.c3;have iv0:=V5.out.c0;have iv1:=V5.out.c1;clear Ip Im hb5 k1 k2))|(go_at_call 123;((with_reducible refine (gX mo _ _ f1 f2 (Go.Proofs.YtmeodbjlmjpnbaaGreat.U.bI fo o.pop) p5 ((n:Int) - 1) _ (by rw [HR.out.2.1];have:=(HS.out _ X5.out.2).2.1.qs;omega) X5.out.1.mt (by have:=HI.out;have:=HN.out;omega) (by have:=HI.out;have:=HN.out;omega) T5.out (DR (HS.out _ X5.out.2).2.2.1.all (HS.out _ X5.out.2).2.2.2.2) HR.out.1 (by rw [HR.out.2.1];have:=HN.out.1;omega)).mono ?_);rintro e w6 ⟨p6,rfl,Io,Iy,hb6⟩;have X6:=hdz (af (X5.out.1.turn Iy hb6 ax) (X5.out.2.trans hb6));have V6:=hdz (V5.out.bt hb6 X5.out.1.mt);have T6:=hdz Io;obtain ⟨j0,k1,k2,R6, -⟩:=HS.out _ X6.out.2;have jb4:=k1.four.c4;have jg0:=k2.four.c0;have jg1:=k2.four.c1;have jg2:=k2.four.c2;have jg3:=k2.four.c3;have jv0:=V6.out.c0;have jv1:=V6.out.c1;have r6:=R6.c0;have z6:=R6.z0;have RR:=hdz R6;clear Io Iy hb6 k1 k2 R6)))
 go_wp2_with fail
 have hk:=X6.out.1.put RR.out aj (by decide) (by rw [←HA.out];omega) 0 (.pointer p6);have s0:=(RR.out.put p6).c0;exact bodyPost_ret (v := .tuple #[hp p6,.bool true]) (by simp [results,Tryz.results372,go_sem,s0]) rfl ⟨p6,rfl,T6.out.wrote RR.out aj 0 _,by simpa [Int.add_assoc,Int.add_comm,Int.add_left_comm] using hk.mt,hk.bt⟩
theorem jb (mo:Option Nat)(c m:Int)(h:Lh)(p:Option Addr)(w:World)(hs:h.size<134217728)(hm:aW w mo c m)(h0:0≤c)(h1:c<72057594037927936)(h2:0≤m)(h3:m<72057594037927936)
  (hh:aA w h p):Calls Tryz.prog 372 #[hp p,aF mo] w (gP mo (c+h.jf) (m+h.jl) h.pop h.some w):=by
 cases h with
 | nil =>
  obtain rfl:=hh.no;have:=FD mo c m w hm;simpa [Lh.jf,Lh.jl,Lh.pop,Lh.some,Lh.min] using this
 | node x q =>
  obtain ⟨x1,x2⟩:=x;obtain ⟨o,b,s,n,rfl,rfl,hx⟩:=qb.of hh;rw [←hx.size]at hs;by_cases hne:o.ts=[]
  ·obtain ⟨ts⟩:=o;change ts=[]at hne;subst hne;have:=Gb mo c m x1 x2 b s n w hm h0 h1 hx;have e1:(Lh.node (x1,x2) (heaps ⟨[]⟩)).jf=0:=rfl;have e2:(Lh.node (x1,x2) (heaps ⟨[]⟩)).jl=0:=rfl;have e3:(Lh.node (x1,x2) (heaps ⟨[]⟩)).pop=.nil:=rfl;rw [e1,e2,e3,show (Lh.node (x1,x2) (heaps ⟨[]⟩)).some=true from rfl];simpa using this
  ·obtain ⟨⟨f1,f2⟩,fo,fs,fn,hf,hF,hfn⟩:=hx.least (by omega) hne;have hl:=(Ai hx.all hne).2;refine ED mo c m x1 x2 f1 f2 o fo b o.min.1.a s fs n fn w hs hfn hm h0 h1 h2 h3 hx hne ?_ hf hF hl;obtain ⟨ts⟩:=o
   cases ts with
   | nil=>exact (hne rfl).elim
   | cons t r=>rfl
end Go.Proofs.YtmeodbjlmjpnbaaGreat.U.Bo
namespace Go.Proofs.YtmeodbjlmjpnbaaGreat.U.Bo
open Go.Sort Go.RowKit
theorem wT (xs:List (Int×Int))(k:Nat)(h:k<xs.length):dG .nil (xs.take (k+1))=dG .nil (xs.take k)+(fG (xs.take k)).iJ xs[k]∧dD .nil (xs.take (k+1))=dD .nil (xs.take k)+(fG (xs.take k)).iF xs[k]:=by
 rw [List.take_succ_eq_append_getElem h,iU,iP];exact ⟨rfl,rfl⟩
theorem kY (xs:List (Int×Int))(k:Nat)(h:k<xs.length):fG (xs.take (k+1))=(fG (xs.take k)).insert xs[k]:=by
 rw [List.take_succ_eq_append_getElem h,lI]
theorem uZ (xs:List (Int×Int))(h:xs.length<16777216):dG .nil xs<67108864∧dD .nil xs<67108864:=by
 have:=nH xs .nil;omega
theorem nR {w:World}{q:Addr}{v:Value}(h:w.cell? q=some v)(o:Obj):(w.alloc o).cell? q=some v:=(((Below.refl w.heap.size w).alloc (Nat.le_refl _) o).cell (block_lt_of_cell h)).trans h
theorem kC (mo:Option Nat)(c m:Int)(A:Option Addr)(xs:List (Int×Int))(cap:Nat)(w:World)(hm:aW w mo c m)(h0:0≤c)(h1:c<72057594037927936)(h2:0≤m)(h3:m<72057594037927936)(hr:Row w A xs)(hn:xs.length<16777216)
  (hne:0<xs.length → ∀b,mo=some b → ∀q,A=some q→q.block≠b) :
  Calls Tryz.prog 51 #[aF mo,.slice A xs.length cap] w (bU mo (c+dG .nil xs) (m+dD .nil xs) (fG xs) w):=by
 have K1:dL au mo w c m ((w.alloc (.cells #[.pointer none] 127)).alloc (.cells #[.pointer none] 127)):=((dL.refl hm).alloc _).alloc _
 have e1:((w.alloc (.cells #[.pointer none] 127)).alloc (.cells #[.pointer none] 127)).heap[w.heap.size]?=some (.cells #[.pointer none] 127 (0,0)):=by
  rw [alloc_old _ (by simp only [World.size_alloc];omega)];exact aJ rfl
 have e2:((w.alloc (.cells #[.pointer none] 127)).alloc (.cells #[.pointer none] 127)).heap[w.heap.size+1]?=some (.cells #[.pointer none] 127 (0,0)):=aJ (by simp);have HR:=hdz (af hr hne);have HN:=hdz (af h0 (af h1 (af h2 h3)));have HE:=hdz (af e1 e2);have KK:=hdz K1;obtain ⟨n,hnn⟩:=aU (xs.length);rw [←hnn]at hn ⊢;have HX:=hdz hnn;clear hr hne h0 h1 h2 h3 K1 hm e1 e2 hnn;go_enter Tryz.func51,Tryz.ntmps51
 go_wp2_with fail
 generalize (w.alloc (.cells #[.pointer none] 127)).alloc (.cells #[.pointer none] 127)=w1 at *;obtain ⟨a,ha⟩:=aU (w.heap.size);rw [←ha]at HE ⊢;have HA:=hdz ha;clear ha;go_loopg [10] n (fun k i wr => ∃(j:Nat) (p:Option Addr),i=.int .i64 (j:Int)∧j+k=n∧wr.heap[a]?=some (.cells #[.pointer none] 127 (0,0))∧wr.heap[a+1]?=some (.cells #[.pointer p] 127 (0,0))∧aA wr (fG (xs.take j)) p∧dL au mo w (c+dG .nil (xs.take j)) (m+dD .nil (xs.take j)) wr)
 case atStart=>exact ⟨0,none,rfl,by omega,HE.out.1,HE.out.2,aA.none _,by simpa [dG,dD] using KK.out⟩
 case round =>
  obtain ⟨j,p,rfl,hj,hra,hrb,ht,hk⟩:=hrel;by_cases hlt:j<n
  ·have hjx:j<xs.length:=by rw [←HX.out];exact hlt
   obtain ⟨b,o,rfl,hc⟩:=HR.out.1 (by omega);have hx:=qm hc j hjx;have hne:=fun bb (eb:mo=some bb)=>HR.out.2 (by omega) bb eb _ rfl;have x0:=hk.bt.cell hx.1 hne;have x1:=hk.bt.cell hx.2 hne;have hp:=uZ (xs.take j) (by rw [List.length_take];omega);have hsz:(fG (xs.take j)).size=j:=by rw [kW,List.length_take];omega
   have eP:=wT xs j hjx;have eO:=kY xs j hjx;generalize xs[j]=x at *;obtain ⟨y1,y2⟩:=x;have q1:(j:Int)<(n:Int):=by omega
   have q2:(0:Int)≤(j:Int):=by omega
   have h1c:wr.cell? ⟨a+1,0,none⟩=some (.pointer p):=by simp [World.cell?,hrb]
   have h2c:(wr.alloc (.cells #[.int .i64 y1,.int .i64 y2] 29)).cell? ⟨a+1,0,none⟩=some (.pointer p):=nR h1c _;have X:=hdz (af hra (af hrb (af ht (af hk (af eP (af eO (af hp (af hsz hj))))))));clear hra hrb ht hk eP eO hp hsz hj hc hx hne hjx;go_wp2_with fail
   clear h1c h2c x0 x1;((with_reducible refine (di mo _ _ (fG (xs.take j)) (y1,y2) p _ (by rw [X.out.2.2.2.2.2.2.2.1];omega) (X.out.2.2.2.1.alloc _).mt (by have:=HN.out;omega) (by have:=HN.out;have:=X.out.2.2.2.2.2.2.1;omega) (by have:=HN.out;omega) (by have:=HN.out;have:=X.out.2.2.2.2.2.2.1;omega) (X.out.2.2.1.stay (bG _))).mono ?_);rintro e w2 ⟨p2,rfl,ht2,hm2,hb2⟩);obtain ⟨hra,hrb,ht,hk,eP,eO,hp,hsz,hj⟩:=X.out;have hk2:=(hk.alloc (.cells #[.int .i64 y1,.int .i64 y2] 29)).turn hm2 hb2 ax;have ra2:=hb2.row (hk.alloc _).mt ((alloc_old (.cells #[.int .i64 y1,.int .i64 y2] 29) (lt_of_heap hra)).trans hra) (by decide);have rb2:=hb2.row (hk.alloc _).mt ((alloc_old (.cells #[.int .i64 y1,.int .i64 y2] 29) (lt_of_heap hrb)).trans hrb) (by decide);have e1:c+((dG .nil (xs.take (j+1)):Nat):Int)=c+(dG .nil (xs.take j):Nat)+((fG (xs.take j)).iJ (y1,y2):Nat):=by rw [eP.1];omega
   have e2:m+((dD .nil (xs.take (j+1)):Nat):Int)=m+(dD .nil (xs.take j):Nat)+((fG (xs.take j)).iF (y1,y2):Nat):=by rw [eP.2];omega
   rw [←e1,←e2]at hk2;rw [←eO]at ht2;have z2:w2.frozen? ⟨a+1,0,none⟩=false:=by simp [World.frozen?,rb2]
   have r2:w2.cell? ⟨a+1,0,none⟩=some (.pointer p):=by simp [World.cell?,rb2]
   have Y:=hdz (af (show (w2.setCell ⟨a+1,0,none⟩ (.pointer p2)).heap[a]?=_ from (aH _ _ (by omega)).trans ra2) (af (show (w2.setCell ⟨a+1,0,none⟩ (.pointer p2)).heap[a+1]?=some (.cells #[.pointer p2] 127 (0,0)) from heap_put (j:=0) rb2 (.pointer p2)) (af (ht2.wrote rb2 aj 0 (.pointer p2)) (hk2.put rb2 aj (by decide) (by rw [←HA.out];omega) 0 (.pointer p2)))));clear hra hrb ht hk eP eO hp hsz hk2 ra2 rb2 e1 e2 ht2 hm2 hb2 X;go_wp2_with fail
   go_roundg (n - 1 - j)
   case measure=>omega
   case rel=>exact ⟨j+1,p2,by congr 1,by omega,Y.out.1,Y.out.2.1,Y.out.2.2.1,Y.out.2.2.2⟩
  ·have hjn:j=n:=by omega
   subst hjn;rw [HX.out,List.take_length]at ht hk;have h1c:wr.cell? ⟨a+1,0,none⟩=some (.pointer p):=by simp [World.cell?,hrb]
   have r6:wr.cell? ⟨a,0,none⟩=some (.pointer none):=by simp [World.cell?,hra]
   have z6:wr.frozen? ⟨a,0,none⟩=false:=by simp [World.frozen?,hra]
   have hk2:=hk.put hra aj (by decide) (by rw [←HA.out];omega) 0 (.pointer p);have X:=hdz (af (ht.wrote hra aj 0 (.pointer p)) hk2);clear hra hrb ht hk hk2 hlt hj;go_wp2_with fail
   exact bodyPost_ret (v:=hp p) (by simp [results,Tryz.results51,go_sem,r6]) rfl ⟨_,rfl,X.out.1,X.out.2.mt,X.out.2.bt⟩
end Go.Proofs.YtmeodbjlmjpnbaaGreat.U.Bo
namespace Go.Proofs.YtmeodbjlmjpnbaaGreat.U.Bo
open Go.Sort Go.RowKit
theorem ic {h:Lh}(hg:h.good):h.min=(hd (dw h.all),decide (0<(dw h.all).length)):=by
 cases h with
 | nil=>rw [show (Lh.nil).all=[] from all_nil,kr];rfl
 | node x o=>rw [jK (h := .node x o) hg.ok rfl];rfl
theorem jM {h:Lh}(hg:h.good):h.some=decide (0<(dw h.all).length):=(show h.some=h.min.2 by exact (jX h).symm).trans (congrArg Prod.snd (ic hg))
theorem dJ (h:Lh):(dw h.all).length=h.size:=by rw [kG,Lh.aD]
theorem wN (h:Lh)(q:Option Addr)(w:World)(hg:h.good)(hh:aA w h q) :
  Calls Tryz.prog 293 #[.agg #[.pointer q],.pointer none] w fun e w'=>e=.returned (.tuple #[el (hd (dw h.all)),.bool (decide (0<(dw h.all).length))])∧Below w.heap.size w w':=by
 have hm:∀(k:Nat) (w:World),(method (k+1) 127 (.agg #[.pointer q]) "Min").run Tryz.prog w=.ok (371,.agg #[.pointer q]) w:=fun _ _=>by kernel_rfl
 have hb1:Below w.heap.size w ((w.alloc (.cells #[.pointer q] 187)).alloc (.cells #[.int .i64 0,.int .i64 0] 29)):=(bG _).alloc (by simp) _
 have hv:aB ((w.alloc (.cells #[.pointer q] 187)).alloc (.cells #[.int .i64 0,.int .i64 0] 29)) (w.heap.size+1) 29 (.int .i64 0) (.int .i64 0):=by
  have:=aB.new (w.alloc (.cells #[.pointer q] 187)) 29 (.int .i64 0) (.int .i64 0);simpa only [World.size_alloc] using this
 have H:=hdz (af (hh.stay hb1) (af hb1 hv));obtain ⟨x,hx⟩:=aU (h.min);obtain ⟨⟨x1,x2⟩,z⟩:=x;have hx2:=hx.trans (ic hg);rw [show hd (dw h.all)=(x1,x2) from (congrArg Prod.fst hx2).symm,show decide (0<(dw h.all).length)=z from (congrArg Prod.snd hx2).symm];have HM:fH h=.tuple #[.agg #[.int .i64 x1,.int .i64 x2],.bool z]:=by unfold fH;rw [←hx]
 have HN:=hdz HM;clear hh hb1 hg hx hx2 HM hv;go_enter Tryz.func293,Tryz.ntmps293
 go_wp2_with fail
 refine (iX h q (.pointer none) _ H.out.1).mono ?_;rintro e w1 ⟨he,hb⟩;rw [HN.out]at he;subst he;have hv:=H.out.2.2.stay hb;have c0:=hv.c0;have c1:=hv.c1;have z0:=hv.z0;have z1:=hv.z1;have hs:=hv.set (.int .i64 x1) (.int .i64 x2);have k0:=hs.c0;have k1:=hs.c1;have Y:=hdz (H.out.2.1.trans (hb.mono H.out.2.1.size));clear hb hv hs;go_wp2_with fail
 refine bodyPost_ret (v := .tuple #[.agg #[.int .i64 x1,.int .i64 x2],.bool z]) (by simp [results,Tryz.results293,go_sem,k0,k1]) rfl ⟨rfl,(Y.out.setCell (by simp) _).setCell (by simp) _⟩
theorem xO (h:Lh)(q:Option Addr)(w:World)(hs:h.size<16777216)(hh:aA w h q) :
  Calls Tryz.prog 294 #[.agg #[.pointer q],.pointer none] w fun e w' => ∃q':Option Addr,e=.returned (.tuple #[.iface 187 (.agg #[.pointer q']),.bool h.some])∧aA w' h.pop q'∧Below w.heap.size w w':=by
 have hm:∀(k:Nat) (w:World),(method (k+1) 127 (.agg #[.pointer q]) "Pop").run Tryz.prog w=.ok (372,.agg #[.pointer q]) w:=fun _ _=>by kernel_rfl
 have hb1:Below w.heap.size w (w.alloc (.cells #[.pointer q] 187)):=bG _;have H:=hdz (af (hh.stay hb1) hb1);have HS:=hdz hs;obtain ⟨z,hz⟩:=aU (h.some);rw [←hz];have HZ:=hdz hz;clear hh hb1 hs hz;go_enter Tryz.func294,Tryz.ntmps294
 go_wp2_with fail
 refine (jb none 0 0 h q _ (by have:=HS.out;omega) trivial (by decide) (by decide) (by decide) (by decide) H.out.1).mono ?_;rintro e w1 ⟨q',he,ht, -,hb⟩;rw [←HZ.out]at he;subst he;have Y:=hdz (af ht trivial);have hT:=H.out.2.trans (hb.gK.mono H.out.2.size);have HT:=hdz hT;clear ht hb hT;go_wp2_with fail
 refine bodyPost_ret (v := .tuple #[.iface 187 (.agg #[.pointer q']),.bool z]) (by simp [results,Tryz.results294,go_sem]) rfl ⟨q',rfl,Y.out.1.stay (bG _),HT.out.alloc HT.out.size _⟩
theorem qV (h:Lh)(q:Option Addr)(w:World)(hh:aA w h q) :
  Calls Tryz.prog 296 #[.agg #[.pointer q]] w fun e w'=>e=.returned (.int .i64 (h.size:Nat))∧Below w.heap.size w w':=by
 have hm:∀(k:Nat) (w:World),(method (k+1) 127 (.agg #[.pointer q]) "Size").run Tryz.prog w=.ok (373,.agg #[.pointer q]) w:=fun _ _=>by kernel_rfl
 have hb1:Below w.heap.size w (w.alloc (.cells #[.pointer q] 187)):=bG _;have H:=hdz (af (hh.stay hb1) hb1);obtain ⟨z,hz⟩:∃z:Int,z=(h.size:Nat):=⟨_,rfl⟩;rw [←hz];have HZ:=hdz hz;clear hh hb1 hz;go_enter Tryz.func296,Tryz.ntmps296
 go_wp2_with fail
 refine (eF h q _ H.out.1).mono ?_;rintro e w1 ⟨he,hb⟩;rw [←HZ.out]at he;subst he;have Y:=hdz (H.out.2.trans (hb.mono H.out.2.size));clear hb;go_wp2_with fail
 refine bodyPost_ret (v := .int .i64 z) (by simp [results,Tryz.results296,go_sem]) rfl ⟨rfl,Y.out⟩
theorem qM (v:Value)(w:World):Calls Tryz.prog 37 #[.agg #[.iface 187 v]] w fun e w'=>e=.returned (.int .i64 6)∧Below w.heap.size w w':=by
 have hb1:Below w.heap.size w (w.alloc (.cells #[.iface 187 v] 27)):=bG _;have h1:∀(w:World),(Instr.typeAssert (.iface 187 v) 25 177 true).run Tryz.prog w=.ok (.tuple #[.agg #[.pointer none],.bool false]) w:=fun _=>by kernel_rfl
 have h2:∀(w:World),(Instr.typeAssert (.iface 187 v) 25 179 true).run Tryz.prog w=.ok (.tuple #[.agg #[.pointer none,.int .i64 0],.bool false]) w:=fun _=>by kernel_rfl
 have h3:∀(w:World),(Instr.typeAssert (.iface 187 v) 25 181 true).run Tryz.prog w=.ok (.tuple #[.agg #[.pointer none],.bool false]) w:=fun _=>by kernel_rfl
 have h4:∀(w:World),(Instr.typeAssert (.iface 187 v) 25 183 true).run Tryz.prog w=.ok (.tuple #[.agg #[.pointer none,.int .i64 0],.bool false]) w:=fun _=>by kernel_rfl
 have h5:∀(w:World),(Instr.typeAssert (.iface 187 v) 25 185 true).run Tryz.prog w=.ok (.tuple #[.agg #[.pointer none],.bool false]) w:=fun _=>by kernel_rfl
 have h6:∀(w:World),(Instr.typeAssert (.iface 187 v) 25 187 true).run Tryz.prog w=.ok (.tuple #[v,.bool true]) w:=fun _=>by kernel_rfl
 go_enter Tryz.func37,Tryz.ntmps37
 go_wp2_with fail
 refine bodyPost_ret (v := .int .i64 6) (by simp [results,Tryz.results37,go_sem]) rfl ⟨rfl,hb1⟩
theorem EI (q:Option Addr)(w:World):Calls Tryz.prog 50 #[.agg #[.pointer q]] w fun e w'=>e=.returned (.agg #[.iface 187 (.agg #[.pointer q])])∧Below w.heap.size w w':=by
 have hb1:Below w.heap.size w ((w.alloc (.cells #[.pointer q] 127)).alloc (.cells #[.iface 187 (.agg #[.pointer q])] 27)):=(bG _).alloc (by simp) _;go_enter Tryz.func50,Tryz.ntmps50
 go_wp2_with fail
 refine bodyPost_ret (v := .agg #[.iface 187 (.agg #[.pointer q])]) (by simp [results,Tryz.results50,go_sem]) rfl ⟨rfl,hb1⟩
theorem ET (A:Option Addr)(xs:List (Int×Int))(cap:Nat)(w:World)(hr:Row w A xs)(hn:xs.length<16777216) :
  Calls Tryz.prog 18 #[.pointer none,.int .i64 6,.slice A xs.length cap] w fun e w' => ∃q':Option Addr,e=.returned (.tuple #[.agg #[.iface 187 (.agg #[.pointer q'])],.int .i64 0])∧aA w' (fG xs) q'∧Below w.heap.size w w':=by
 have hb1:Below w.heap.size w (w.alloc (.cells #[.nilIface] 27)):=bG _;have H:=hdz (af (hr.below hb1) hb1);obtain ⟨L,hL⟩:=aU (xs.length);have HL:=hdz (af hL (hL▸hn:L<16777216));rw [←hL];clear hr hb1 hL hn;go_enter Tryz.func18,Tryz.ntmps18
 go_wp2_with fail
 have hL:=HL.out.1;subst hL;refine (kC none 0 0 A xs cap _ trivial (by decide) (by decide) (by decide) (by decide) H.out.1 HL.out.2 (fun _ _ e=>by cases e)).mono ?_;rintro e w1 ⟨q',rfl,ht, -,hb⟩;have hB:=hb.gK;have hF:w1.heap[w.heap.size]?=some (.cells #[.nilIface] 27 (0,0)):=(hB.block _ (by simp)).trans (heap_alloc_new w _);have Y:=hdz (af ht (af (H.out.2.trans (hB.mono H.out.2.size)) hF));clear hB hF;clear ht hb;go_wp2_with fail
 refine (EI q' _).mono ?_;rintro e w2 ⟨rfl,hb2⟩;have hF:=(hb2.block _ (lt_of_heap Y.out.2.2)).trans Y.out.2.2;have k0:=one_cell hF;have z0:=iQ hF;have Z:=hdz (af (Y.out.1.stay hb2) (af (Y.out.2.1.trans (hb2.mono Y.out.2.1.size)) hF));clear hb2 hF;have k1:=one_cell (gD Z.out.2.2 (.iface 187 (.agg #[.pointer q'])));go_wp2_with fail
 refine bodyPost_ret (v := .tuple #[.agg #[.iface 187 (.agg #[.pointer q'])],.int .i64 0]) (by simp [results,Tryz.results18,go_sem,k1]) rfl ⟨q',rfl,Z.out.1.fQ (bO.set Z.out.2.2 (by unfold au Hp.au dV;decide) 0 _) (by simp [World.setCell]),Z.out.2.1.setCell (Nat.le_refl _) _⟩
theorem fC {W W':World}(h:bO NH W W'):bO au W W':=fun b cs t ht=>h b cs t (by unfold au Hp.au dV at ht;rcases ht with (rfl|rfl|rfl|rfl)|rfl<;>decide)
def At (W:World)(v:Value)(l:List (Int×Int)):Prop:=∃q:Option Addr,v=.agg #[.pointer q] ∧ ∃h:Lh,aA W h q∧h.good∧dw h.all=l
theorem mr:iT 6 187 291 292 293 294 296 At where
 mN:=fun _ _ _=>by kernel_rfl
 mP:=fun _ _ _=>by kernel_rfl
 mS:=fun _ _ _=>by kernel_rfl
 cN:=fun _ _=>by kernel_rfl
 cP:=fun _ _=>by kernel_rfl
 cS:=fun _ _=>by kernel_rfl
 stay:=fun ha hb=>by
  obtain ⟨q,rfl,h,hh,hg,rfl⟩:=ha;exact ⟨q,rfl,h,hh.stay hb,hg,rfl⟩
 keep:=fun ha hk hs=>by
  obtain ⟨q,rfl,h,hh,hg,rfl⟩:=ha;exact ⟨q,rfl,h,hh.fQ (fC hk) hs,hg,rfl⟩
 min:=fun v l w ha=>by
  obtain ⟨q,rfl,h,hh,hg,rfl⟩:=ha;exact wN h q w hg hh
 pop:=fun v l w ha hn=>by
  obtain ⟨q,rfl,h,hh,hg,rfl⟩:=ha;rw [dJ]at hn;exact (xO h q w hn hh).mono fun e w' ⟨q',he,ht,hb⟩=>⟨_,by rw [←jM hg];exact he,⟨q',rfl,_,ht,jE hg,kS hg.ok⟩,hb⟩
 size:=fun v l w ha=>by
  obtain ⟨q,rfl,h,hh,hg,rfl⟩:=ha;rw [dJ];exact qV h q w hh
 kind:=fun v w=>qM v w
 of:=fun A xs cap w hr hn hf=>(ET A xs cap w hr hn).mono fun e w' ⟨q',he,ht,hb⟩=>⟨_,he,⟨q',rfl,_,ht,kT hf,nD xs⟩,hb⟩
end Go.Proofs.YtmeodbjlmjpnbaaGreat.U.Bo
