/- Plain facts, of no program: pairing heaps as data under the names that the laws' walks use (those of layer 6's): melded, put in, of a row, paired, the least one taken out: elements, order, sizes, counts, texts. No conditions. -/
import Derived.Test.YtmeodbjlmjpnbaaGreatPa
import Derived.Test.YtmeodbjlmjpnbaaGreatProg
import Derived.Lib.Hide
import Derived.WalkKit
import Derived.WalkLawsBesides
import Derived.Outline
import Derived.Deep.QuietTactic
import Derived.BigQuiet
import Derived.LoopTactic
import Derived.Shelf.Abstract
import Derived.Shelf.RegionOpen
import Derived.OwnWalkIn
import Derived.TacticsInMore
import Derived.LoopNIn
import Derived.LoopIn
import Derived.Deep.RegionHeld3
import Derived.Deep.DrawnRows
import Derived.StillTailTactics
set_option maxRecDepth 100000
set_option maxHeartbeats 4000000
namespace Go.Proofs.YtmeodbjlmjpnbaaGreat.Pd
open Go.Sort Go.RowKit
inductive Kd
 | nil
 | cons (x:Int×Int) (ks rest:Kd)
inductive Lh
 | nil
 | node (x:Int×Int) (ks:Kd)
def Kd.len:Kd→Nat
 | .nil=>0
 | .cons _ _ r=>r.len+1
def Kd.size:Kd→Nat
 | .nil=>0
 | .cons _ ks r=>1+ks.size+r.size
def Kd.all:Kd→List (Int×Int)
 | .nil=>[]
 | .cons x ks r=>(x::ks.all)++r.all
def Kd.show:Kd→List UInt8
 | .nil=>[]
 | .cons x ks r=>(32::40::(textOf x.1 x.2++(ks.show++[41])))++r.show
def Kd.ok:Kd→Prop
 | .nil=>True
 | .cons x ks r=>(∀e∈ks.all,dH e x=false)∧ks.ok∧r.ok
def Lh.size:Lh→Nat
 | .nil=>0
 | .node _ ks=>1+ks.size
def Lh.all:Lh→List (Int×Int)
 | .nil=>[]
 | .node x ks=>x::ks.all
def Lh.show:Lh→List UInt8
 | .nil=>[46]
 | .node x ks=>40::(textOf x.1 x.2++(ks.show++[41]))
def Lh.min:Lh→(Int×Int)×Bool
 | .nil=>((0,0),false)
 | .node x _=>(x,true)
def Lh.some (h:Lh):Bool:=h.min.2
def Lh.ok:Lh→Prop
 | .nil=>True
 | .node x ks=>(∀e∈ks.all,dH e x=false)∧ks.ok
def Lh.one (x:Int×Int):Lh := .node x .nil
def bI:Lh→Lh→Lh
 | .nil,o=>o
 | .node x ks,.nil=>.node x ks
 | .node x ks,.node y ls=>if dH y x=true then .node y (.cons x ks ls) else .node x (.cons y ls ks)
def aQ:Lh→Lh→Nat
 | .node _ _,.node _ _=>1
 | _,_=>0
def Lh.insert (h:Lh)(x:Int×Int):Lh:=bI (.one x) h
def Kd.pair:Kd→Lh
 | .nil=>.nil
 | .cons x ks .nil=>.node x ks
 | .cons x ks (.cons y ls r)=>bI (bI (.node x ks) (.node y ls)) r.pair
def Kd.vW:Kd→Nat
 | .nil=>0
 | .cons _ _ .nil=>0
 | .cons x ks (.cons y ls r)=>aQ (.node x ks) (.node y ls)+r.vW+aQ (bI (.node x ks) (.node y ls)) r.pair
def Lh.pop:Lh→Lh
 | .nil=>.nil
 | .node _ ks=>ks.pair
def Lh.oK:Lh→Nat
 | .nil=>0
 | .node _ ks=>ks.vW
def fG (l:List (Int×Int)):Lh:=l.foldl Lh.insert .nil
def dN:Lh→List (Int×Int)→Nat
 | _,[]=>0
 | h,x::r=>aQ (.one x) h+dN (h.insert x) r
theorem Kd.fE:∀w:Kd,w.len≤w.size
 | .nil=>Nat.le_refl _
 | .cons _ _ r=>by have:=r.fE;simp only [Kd.len,Kd.size];omega
theorem Kd.aD:∀w:Kd,w.all.length=w.size
 | .nil=>rfl
 | .cons x ks r=>by simp only [Kd.all,Kd.size,List.length_append,List.length_cons,ks.aD,r.aD];omega
theorem Lh.aD:∀h:Lh,h.all.length=h.size
 | .nil=>rfl
 | .node x ks=>by simp only [Lh.all,Lh.size,List.length_cons,ks.aD];omega
theorem Kd.gB:∀w:Kd,fits w.all→w.show.length≤46*w.size
 | .nil,_=>by simp [Kd.show]
 | .cons x ks r,h=>by
  have h0:=(h.append).1.cons;have h1:=jV x.1 x.2 h0.1.1 h0.1.2;have h3:=ks.gB h0.2;have h4:=r.gB h.append.2;simp only [Kd.show,Kd.size,List.length_append,List.length_cons,List.length_nil]at *;omega
theorem Lh.gB:∀h:Lh,fits h.all→h.show.length≤46*h.size+1
 | .nil,_=>by simp [Lh.show]
 | .node x ks,h=>by
  have h0:=h.cons;have h1:=jV x.1 x.2 h0.1.1 h0.1.2;have h3:=ks.gB h0.2;simp only [Lh.show,Lh.size,List.length_append,List.length_cons,List.length_nil]at *;omega
theorem jA (o:Lh):bI .nil o=o:=by cases o<;>rfl
theorem fT (h:Lh):bI h .nil=h:=by cases h<;>rfl
theorem rF (o:Lh):aQ .nil o=0:=by cases o<;>rfl
theorem fw {x y:Int×Int}{ks ls:Kd}(h:dH y x=true):bI (.node x ks) (.node y ls)=.node y (.cons x ks ls):=by simp only [bI];rw [if_pos h]
theorem iY {x y:Int×Int}{ks ls:Kd}(h:dH y x=false):bI (.node x ks) (.node y ls)=.node x (.cons y ls ks):=by simp only [bI];rw [if_neg (by rw [h];simp)]
theorem yu (x y:Int×Int)(ks ls:Kd):aQ (.node x ks) (.node y ls)=1:=rfl
theorem tK (a b:Lh):aQ a b≤1:=by cases a<;>cases b<;>simp [aQ]
theorem bP:∀a b:Lh,(bI a b).all.Perm (a.all++b.all)
 | .nil,b=>by rw [jA];exact List.Perm.refl _
 | .node x ks,.nil=>by rw [fT];simp [Lh.all]
 | .node x ks,.node y ls=>by
  cases h:dH y x with
  | true =>
   rw [fw h];simp only [Lh.all,Kd.all];exact (List.perm_middle (a:=y) (l₁:=x::ks.all) (l₂:=ls.all)).symm
  | false =>
   rw [iY h];simp only [Lh.all,Kd.all,List.cons_append];refine List.Perm.cons x ?_;exact (List.perm_append_comm (l₁:=y::ls.all) (l₂:=ks.all)).trans (List.Perm.refl _)
theorem d9 (a b:Lh):(bI a b).size=a.size+b.size:=by
 have h:=(bP a b).length_eq;rw [Lh.aD,List.length_append,Lh.aD,Lh.aD]at h;exact h
theorem lV (x:Int×Int):(Lh.one x).all=[x]:=rfl
theorem iL (x:Int×Int):(Lh.one x).size=1:=rfl
theorem bD (h:Lh)(x:Int×Int):(h.insert x).all.Perm (x::h.all):=bP _ _
theorem gZ (h:Lh)(x:Int×Int):(h.insert x).size=h.size+1:=by unfold Lh.insert;rw [d9,iL];omega
theorem jD:∀(l:List (Int×Int)) (h:Lh),(l.foldl Lh.insert h).all.Perm (h.all++l)
 | [],h=>by simp
 | x::r,h=>by
  refine (jD r (h.insert x)).trans ?_;refine ((bD h x).append_right r).trans ?_;simp only [List.cons_append];exact List.perm_middle.symm
theorem fJ (l:List (Int×Int)):(fG l).all.Perm l:=by have:=jD l .nil;simpa [Lh.all,fG] using this
theorem kW (l:List (Int×Int)):(fG l).size=l.length:=by have:=(fJ l).length_eq;rwa [Lh.aD]at this
theorem lI (l:List (Int×Int))(x:Int×Int):fG (l++[x])=(fG l).insert x:=by simp [fG]
theorem kJ:∀(l:List (Int×Int)) (h:Lh) (x:Int×Int),dN h (l++[x])=dN h l+aQ (.one x) (l.foldl Lh.insert h)
 | [],h,x=>by simp [dN]
 | y::l,h,x=>by simp only [List.cons_append,dN,List.foldl_cons];rw [kJ l (h.insert y) x];omega
theorem nU (x:Int×Int):(Lh.one x).ok:=⟨(by intro e he;cases he),trivial⟩
theorem gm:∀a b:Lh,a.ok→b.ok→(bI a b).ok
 | .nil,b,_,h=>by rw [jA];exact h
 | .node x ks,.nil,h,_=>by rw [fT];exact h
 | .node x ks,.node y ls,ha,hb=>by
  cases h:dH y x with
  | true =>
   rw [fw h];have hyx:=h;rw [ku]at hyx;refine ⟨fun e he=>?_,ha.1,ha.2,hb.2⟩;simp only [Kd.all,List.cons_append,List.mem_cons,List.mem_append]at he;rcases he with rfl|he|he
   ·rw [iA];omega
   ·have:=ha.1 e he;rw [iA]at this ⊢;omega
   ·exact hb.1 e he
  | false =>
   rw [iY h];have hyx:=h;rw [iA]at hyx;refine ⟨fun e he=>?_,hb.1,hb.2,ha.2⟩;simp only [Kd.all,List.cons_append,List.mem_cons,List.mem_append]at he;rcases he with rfl|he|he
   ·exact h
   ·have:=hb.1 e he;rw [iA]at this ⊢;omega
   ·exact ha.1 e he
theorem gF {h:Lh}(x:Int×Int)(hk:h.ok):(h.insert x).ok:=gm _ _ (nU x) hk
theorem oo:∀(l:List (Int×Int)) {h:Lh},h.ok→(l.foldl Lh.insert h).ok
 | [],_,h=>h
 | x::r,_,h=>oo r (gF x h)
theorem qd (l:List (Int×Int)):(fG l).ok:=oo l trivial
theorem wU (x y:Int×Int)(ks ls r:Kd):(Kd.cons x ks (.cons y ls r)).pair=bI (bI (.node x ks) (.node y ls)) r.pair:=rfl
theorem xJ:∀ks:Kd,ks.pair.all.Perm ks.all
 | .nil=>List.Perm.refl _
 | .cons x ks .nil=>by show (x::ks.all).Perm ((x::ks.all)++[]);simp
 | .cons x ks (.cons y ls r)=>by
  rw [wU];refine (bP _ _).trans ?_;refine ((bP _ _).append (xJ r)).trans ?_;simp only [Lh.all,Kd.all,List.append_assoc];exact List.Perm.refl _
theorem Cj:∀{ks:Kd},ks.ok→ks.pair.ok
 | .nil,_=>trivial
 | .cons _ _ .nil,h=>⟨h.1,h.2.1⟩
 | .cons x ks (.cons y ls r),h=>by
  rw [wU];exact gm _ _ (gm _ _ ⟨h.1,h.2.1⟩ ⟨h.2.2.1,h.2.2.2.1⟩) (Cj h.2.2.2.2)
theorem nP {h:Lh}(hk:h.ok):h.pop.ok:=by
 cases h with
 | nil=>trivial
 | node x ks=>exact Cj hk.2
theorem Lh.oL {h:Lh}(hz:h.size=0):h=.nil:=by
 cases h with
 | nil=>rfl
 | node x ks=>simp only [Lh.size]at hz;omega
theorem nZ:∀(l:List (Int×Int)) (h:Lh),dN h l≤l.length*(h.size+l.length+1)
 | [],h=>by simp [dN]
 | x::r,h=>by
  have h1:=tK (.one x) h;have h2:=nZ r (h.insert x);rw [gZ]at h2;simp only [dN,List.length_cons,Nat.add_mul];have h3:r.length*(h.size+1+r.length+1)=r.length*(h.size+(r.length+1)+1):=by congr 1;omega
  omega
structure Lh.good (h:Lh):Prop where
 ok:h.ok
 fit:fits h.all
theorem jQ {a b:Lh}(ha:a.good)(hb:b.good):(bI a b).good:=⟨gm _ _ ha.ok hb.ok,(ha.fit.join hb.fit).perm (bP a b).symm⟩
theorem qR {x:Int×Int}(h:iw x.1∧iw x.2):(Lh.one x).good:=⟨nU x,by rw [lV];exact fits.more h fits.nil⟩
theorem kL {a:Lh}{x:Int×Int}(ha:a.good)(h:iw x.1∧iw x.2):(a.insert x).good:=jQ (qR h) ha
theorem kT {l:List (Int×Int)}(h:fits l):(fG l).good:=⟨qd l,h.perm (fJ l).symm⟩
theorem jE {a:Lh}(ha:a.good):a.pop.good:=by
 refine ⟨nP ha.ok,?_⟩
 cases a with
 | nil=>exact fits.nil
 | node x ks=>exact (show fits (x::ks.all) from ha.fit).cons.2.perm (xJ ks).symm
theorem rq (a b:Lh):dw (bI a b).all=dw (a.all++b.all):=bX (bP a b)
theorem nJ (a:Lh)(x:Int×Int):dw (a.insert x).all=dw (x::a.all):=bX (bD a x)
theorem nD (l:List (Int×Int)):dw (fG l).all=dw l:=bX (fJ l)
theorem jK {h:Lh}(hk:h.ok)(hne:h.min.2=true):dw h.all=h.min.1::dw h.pop.all:=by
 cases h with
 | nil=>cases hne
 | node x ks =>
  show dw (x::ks.all)=x::dw ks.pair.all;rw [pU hk.1,bX (xJ ks)]
theorem kS {a:Lh}(h:a.ok):dw a.pop.all=(dw a.all).tail:=by
 cases a with
 | nil=>show dw []=(dw []).tail;simp [kr]
 | node x ks=>rw [jK h rfl];rfl
theorem jX (t:Lh):t.min.2=t.some:=rfl
end Go.Proofs.YtmeodbjlmjpnbaaGreat.Pd
namespace Go.Proofs.YtmeodbjlmjpnbaaGreat.Pd.Lt
open Go.Sort Go.RowKit
abbrev El:Type:=Option Addr
abbrev one (x:El):Value := .pointer x
abbrev val (x:El):Value := .agg #[.pointer x]
abbrev zero:El:=none
abbrev dA (p:Option Addr)(n:Int):Value := .agg #[.pointer p,.int .i64 n]
theorem wJ (p:Option Addr)(xs:List El)(x:El)(w w':World)(b:Nat)(h:Ch one 295 w p xs)(hb:Below w.heap.size w w')(h0:w'.heap[b]?=some (.cells #[one x,.pointer p] 295 (0,0))):Ch one 295 w' (some ⟨b,0,none⟩) (x::xs) :=
 ⟨b,p,rfl,(Array.getElem?_eq_some_iff.1 h0).1,h0,h.stay hb⟩
theorem lm (p:Option Addr)(xs:List El)(n:Int)(x:El)(w:World)(h:Ch one 295 w p xs)(h0:0≤n)(h1:n<4611686018427387904):Calls Tryz.prog 146 #[dA p n,val x] w fun e w' =>
  ∃b,e=.returned (dA (some ⟨b,0,none⟩) (n+1))∧Ch one 295 w' (some ⟨b,0,none⟩) (x::xs)∧Below w.heap.size w w':=by
 have H:=hdz h;clear h;go_enter Tryz.func146,Tryz.ntmps146
 go_wp2
 refine bodyPost_ret (v:=dA (some ⟨w.heap.size+1+1+1,0,none⟩) (n+1)) (by simp [results,Tryz.results146,go_sem]) rfl ⟨_,rfl,?_⟩;have hb:Below w.heap.size w ((((w.alloc (.cells #[.pointer p,.int .i64 n] 242)).alloc (.cells #[.pointer x] 113)).alloc (.cells #[.pointer (some ⟨w.heap.size+1+1+1,0,none⟩),.int .i64 (n+1)] 242)).alloc (.cells #[one x,.pointer p] 295)):=((((Below.refl _ w).alloc (Nat.le_refl _) _).alloc (by simp) _).alloc (by simp only [World.size_alloc];omega) _).alloc (by simp only [World.size_alloc];omega) _;refine ⟨wJ p xs x w _ _ H.out hb ?_,hb⟩;have:=World.alloc_heap_new (((w.alloc (.cells #[.pointer p,.int .i64 n] 242)).alloc (.cells #[.pointer x] 113)).alloc (.cells #[.pointer (some ⟨w.heap.size+1+1+1,0,none⟩),.int .i64 (n+1)] 242)) (.cells #[one x,.pointer p] 295);simpa using this
theorem kK (n:Int)(w:World):Calls Tryz.prog 226 #[dA none n] w fun e w' =>
  e=.returned (.tuple #[val zero,.bool false])∧Below w.heap.size w w':=by
 go_enter Tryz.func226,Tryz.ntmps226
 go_wp2
 refine bodyPost_ret (v := .tuple #[val zero,.bool false]) (by simp [results,Tryz.results226,go_sem]) rfl ⟨rfl,?_⟩;exact (((Below.refl w.heap.size w).alloc (Nat.le_refl _) _).alloc (by simp) _).alloc (by simp only [World.size_alloc];omega) _
theorem jH (p:Option Addr)(x:El)(xs:List El)(n:Int)(w:World)(h:Ch one 295 w p (x::xs)):Calls Tryz.prog 226 #[dA p n] w fun e w' =>
  e=.returned (.tuple #[val x,.bool true])∧Below w.heap.size w w':=by
 obtain ⟨b,q,rfl,hb,hh, -⟩:=h;have hv:w.cell? ⟨b,0,none⟩=some (one x):=by simp [World.cell?,hh]
 clear hh;have hb2:Below w.heap.size w ((w.alloc (.cells #[.pointer (some ⟨b,0,none⟩),.int .i64 n] 242)).alloc (.cells #[.pointer none] 113)):=((Below.refl w.heap.size w).alloc (Nat.le_refl _) _).alloc (by simp) _;have hv1:=hb2.cell (p:=⟨b,0,none⟩) hb;rw [hv]at hv1;clear hv hb2;go_enter Tryz.func226,Tryz.ntmps226
 go_wp2
 refine bodyPost_ret (v := .tuple #[val x,.bool true]) (by simp [results,Tryz.results226,go_sem]) rfl ⟨rfl,?_⟩;exact ((Below.refl w.heap.size w).alloc (Nat.le_refl _) _).alloc (by simp) _
theorem tC (p:Option Addr)(n:Int)(w:World):Calls Tryz.prog 301 #[dA p n] w fun e w' =>
  e=.returned (.int .i64 n)∧Below w.heap.size w w':=by
 go_enter Tryz.func301,Tryz.ntmps301
 go_wp2
 go_ret
 exact ⟨rfl,bG _⟩
theorem qW (n:Int)(w:World):Calls Tryz.prog 227 #[dA none n] w fun e w' =>
  e=.returned (dA none n)∧Below w.heap.size w w':=by
 go_enter Tryz.func227,Tryz.ntmps227
 go_wp2
 refine bodyPost_ret (v:=dA none n) (by simp [results,Tryz.results227,go_sem]) rfl ⟨rfl,?_⟩;exact ((Below.refl _ w).alloc (Nat.le_refl _) _).alloc (by simp) _
theorem kN (p:Option Addr)(x:El)(xs:List El)(n:Int)(w:World)(h:Ch one 295 w p (x::xs))(h0:0<n)(h1:n<4611686018427387904):Calls Tryz.prog 227 #[dA p n] w fun e w' =>
  ∃q,e=.returned (dA q (n - 1))∧Ch one 295 w' q xs∧Below w.heap.size w w':=by
 obtain ⟨b,q,rfl,hb,hh,hr⟩:=h;have hv:w.cell? ⟨b,1,none⟩=some (.pointer q):=by simp [World.cell?,hh]
 clear hh;have HR:=hdz hr;clear hr;have hb':Below w.heap.size w ((w.alloc (.cells #[.pointer (some ⟨b,0,none⟩),.int .i64 n] 242)).alloc (.cells #[.pointer none,.int .i64 0] 242)):=((Below.refl w.heap.size w).alloc (Nat.le_refl _) _).alloc (by simp) _;have hv1:=hb'.cell (p:=⟨b,1,none⟩) hb;rw [hv]at hv1;clear hv;have HB:=hdz hb';clear hb';go_enter Tryz.func227,Tryz.ntmps227
 go_wp2
 go_region
 all_goals
  go_wp2
  refine bodyPost_ret (v:=dA q (n - 1)) (by simp [results,Tryz.results227,go_sem]) rfl ⟨_,rfl,?_⟩;have hb2:Below w.heap.size w ((w.alloc (.cells #[.pointer (some ⟨b,0,none⟩),.int .i64 n] 242)).alloc (.cells #[.pointer q,.int .i64 (n - 1)] 242)).drew:=(((Below.refl w.heap.size w).alloc (Nat.le_refl _) _).alloc (by simp) _).drew;exact ⟨Ch.stay HR.out hb2,hb2⟩
theorem bS (p:Option Addr)(xs:List El)(n:Nat)(w:World)(h:Ch one 295 w p xs)(hn:xs.length=n)(h1:n<2147483648):Calls Tryz.prog 227 #[dA p n] w fun e w' =>
  ∃q,e=.returned (dA q ((n - 1:Nat):Int))∧Ch one 295 w' q xs.tail∧Below w.heap.size w w':=by
 cases xs with
 | nil =>
  obtain rfl:=h.nil;obtain rfl:n=0:=hn.symm;exact (qW _ w).mono fun e w' ⟨he,hb⟩=>⟨none,he,rfl,hb⟩
 | cons x xs =>
  refine (kN p x xs n w h (by simp at hn;omega) (by omega)).mono fun e w' ⟨q,he,hc,hb⟩=>⟨q,?_,hc,hb⟩;rw [he,show ((n - 1:Nat):Int)=(n:Int) - 1 from by simp at hn;omega]
end Go.Proofs.YtmeodbjlmjpnbaaGreat.Pd.Lt
namespace Go.Proofs.YtmeodbjlmjpnbaaGreat.Pd.Lt
open Go.Sort Go.RowKit Go.Shelf
attribute [local go_sem] Oper.semAt_some
theorem jd (p:Option Addr)(xs:List El)(k:Int)(n:Nat)(hn:1≤n)(m:Nat)(w:World)(hm:m≤w.heap.size)(h:Chain one 295 m w p xs) :
  AQ Fence.wide n Tryz.prog 302 #[dA p k] val m xs w:=fun l J W hW hJ hY h0=>by
 have hL:Chain one 295 m (W.alloc (.cells #[.pointer p,.int .i64 k] 242)) p xs:=Chain.below ((hW.mono hm).alloc (Nat.le_trans hm hW.size) _) h;have hJ1:=hJ _ _ (.cells #[.pointer p,.int .i64 k] 242) h0;refine callsIn_of_wp Tryz.func302 rfl trivial ?_ rfl;simp only [Tryz.ntmps302,List.size_toArray,List.length_cons,List.length_nil,Nat.reduceAdd,Nat.reduceSub,Array.replicate_succ,Array.replicate_zero,List.push_toArray,List.append_toArray,List.nil_append,List.cons_append];have HL:=hdz hL;have HJ:=hdz hJ1;have HY:=hdz hY;clear hL hJ1 hY h0 h hJ;gi_wp2
 gi_loopw [4] (fun c wr => ∃(pre rest:List El) (q:Option Addr),c=.pointer q∧xs=pre++rest∧Chain one 295 m wr q rest∧J pre wr)
  (fun c wr=>left one 295 m wr c)
 case atStart =>
  exact ⟨[],xs,p,rfl,rfl,HL.out,HJ.out⟩
 case round =>
  obtain ⟨pre,rest,q,rfl,hx,hl,hJs⟩:=hrel
  cases rest with
  | nil =>
   obtain rfl:q=none:=hl;gi_wp2
   go_end0
   rw [hx,List.append_nil];exact ⟨⟨_,rfl⟩,hJs⟩
  | cons x rest =>
   have hl':=hl;obtain ⟨b,q',rfl,hb,hh,hr⟩:=hl;have hv:wr.cell? ⟨b,0,none⟩=some (one x):=by simp [World.cell?,hh]
   have hq:wr.cell? ⟨b,1,none⟩=some (.pointer q'):=by simp [World.cell?,hh]
   obtain ⟨fn,tmps,assign,body,hy,hR⟩:=HY.out pre x wr hJs (by rw [hx];simp);gi_wp2
   refine hR.mono ?_;rintro e W3 ⟨rfl,hJ3,hk3⟩;have hq3:W3.cell? ⟨b,1,none⟩=some (.pointer q'):=(hk3.cell (p:=⟨b,1,none⟩) hb).trans hq;gi_wp2
   go_roundw
   case rel=>exact ⟨pre++[x],rest,q',rfl,by simp [hx],Chain.below hk3 hr,hJ3⟩
   case measure=>rw [left_eq (Chain.below hk3 hr),left_eq hl'];simp
end Go.Proofs.YtmeodbjlmjpnbaaGreat.Pd.Lt
namespace Go.Proofs.YtmeodbjlmjpnbaaGreat.Pd.Lt
open Go.Sort Go.RowKit
def om (w:World)(n:Int)(xs:List El)(m0 m1:Nat)(v:Value)(W:World):Prop :=
 ∃(i L:Nat) (q:Option Addr),v=.int .i64 (n - i)∧L=xs.length - i∧i≤xs.length∧(0<i→(i:Int)≤n)∧aB W m0 242 (.pointer q) (.int .i64 L)∧Ch one 295 W q (xs.drop i)∧aB W m1 242 (.pointer none) (.int .i64 0)∧Below w.heap.size w W
theorem rD (p:Option Addr)(xs:List El)(n:Int)(w:World)(h:Ch one 295 w p xs)(h2:xs.length<2147483648)(hn0 : -9223372036854775808≤n)(hn1:n<9223372036854775808) :
  Calls Tryz.prog 300 #[dA p xs.length,.int .i64 n] w fun e w' =>
   ∃q,e=.returned (dA q ((xs.length - n.toNat:Nat):Int))∧Ch one 295 w' q (xs.drop n.toNat)∧Below w.heap.size w w':=by
 have H:=hdz h;clear h;go_enter Tryz.func300,Tryz.ntmps300
 go_wp2_with fail
 have hB0:Below w.heap.size w ((w.alloc (.cells #[.pointer p,.int .i64 xs.length] 242)).alloc (.cells #[.pointer none,.int .i64 0] 242)):=((Below.refl _ w).alloc (Nat.le_refl _) _).alloc (by simp) _;have bL:=(aB.new w 242 (.pointer p) (.int .i64 xs.length)).alloc (.cells #[.pointer none,.int .i64 0] 242);have bR:=aB.new (w.alloc (.cells #[.pointer p,.int .i64 xs.length] 242)) 242 (.pointer none) (.int .i64 0);simp only [World.size_alloc]at bR;have H0:=hdz (show om w n xs w.heap.size (w.heap.size+1) (.int .i64 n) _ from ⟨0,xs.length,p,by simp,by simp,Nat.zero_le _,by omega,bL,H.out.stay hB0,bR,hB0⟩);clear hB0 bL bR H;go_loopw [1] (fun v wr=>om w n xs w.heap.size (w.heap.size+1) v wr) (fun v _=>(intOf v).toNat)
 case atStart=>exact H0.out
 case round =>
  clear H0;obtain ⟨i,L,q,rfl,hL,hi,hin,hbl,hc,hbr,hb⟩:=hrel;have HL:=hdz hbl;have HR:=hdz hbr;have HC:=hdz hc;have HB:=hdz hb;have HN:=hdz hL;have c0:=hbl.c0;have c1:=hbl.c1;clear hbl hbr hc hb hL;by_cases hpos:0<n - i
  ·have g1:decide (0<n - (i:Int))=true:=by simpa using hpos
   cases hd:xs.drop i with
   | nil =>
    have hc:=HC.out;rw [hd]at hc;obtain rfl:=hc.nil;have hlen:xs.length≤i:=by simpa using hd
    have d0:=HR.out.c0;have d1:=HR.out.c1;have e0:=HR.out.z0;have e1:=HR.out.z1;clear hc;go_wp2_with fail
    have hr2:=HR.out.set (.pointer none) (.int .i64 L);have f0:=hr2.c0;have f1:=hr2.c1;refine bodyPost_ret (v:=dA none L) (by simp [results,Tryz.results300,go_sem,f0,f1]) rfl ⟨none,?_,?_,aL HB.out (by omega) _ _⟩
    ·rw [show L=xs.length - n.toNat from by have:=HN.out;omega]
    ·rw [List.drop_eq_nil_of_le (by omega:xs.length≤n.toNat)];exact Ch.none _
   | cons x rest =>
    have hc:=HC.out;rw [hd]at hc;obtain ⟨b,q',rfl, -⟩:=id hc
    have hlen:i<xs.length:=by
     have:=congrArg List.length hd;simp at this;omega
    have hrest:rest=xs.drop (i+1):=by
     have:=congrArg List.tail hd;simpa using this.symm
    have HC2:=hdz hc;have HT:=hdz hrest;have HI:=hdz hin;have H1:=hdz hlen;clear hc hrest hin hlen hd;go_wp2_with fail
    ((with_reducible refine (kN _ x rest L _ HC2.out (by have:=HN.out;have:=H1.out;omega) (by have:=HN.out;omega)).mono ?_);rintro e w2 ⟨q2,rfl,hc2,hb2⟩);have hl2:=HL.out.stay hb2;have d0:=hl2.c0;have d1:=hl2.c1;have e0:=hl2.z0;have e1:=hl2.z1;have HL2:=hdz hl2;have HC3:=hdz hc2;have HB2:=hdz hb2;clear hl2 hc2 hb2;go_wp2_with fail
    go_roundw
    case rel =>
     refine ⟨i+1,L - 1,q2,by go_num,by have:=HN.out;omega,H1.out,fun _=>by omega,?_,?_,(HR.out.stay HB2.out).aside (by omega) _ _,aL (HB.out.trans (HB2.out.mono HB.out.size)) (Nat.le_refl _) _ _⟩
     ·rw [show ((L - 1:Nat):Int)=(L:Int) - 1 from by have:=HN.out;have:=H1.out;omega];exact HL2.out.set _ _
     ·rw [←HT.out];exact HC3.out.set2 HL2.out (by decide) _ _
    case measure=>simp [intOf];omega
  ·have g1:decide (0<n - (i:Int))=false:=by simpa using hpos
   have d0:=HR.out.c0;have d1:=HR.out.c1;have e0:=HR.out.z0;have e1:=HR.out.z1;go_wp2_with fail
   have hr2:=HR.out.set (.pointer q) (.int .i64 L);have f0:=hr2.c0;have f1:=hr2.c1;have hin2:i=n.toNat:=by omega
   refine bodyPost_ret (v:=dA q L) (by simp [results,Tryz.results300,go_sem,f0,f1]) rfl ⟨q,?_,?_,aL HB.out (by omega) _ _⟩
   ·rw [show L=xs.length - n.toNat from by have:=HN.out;omega]
   ·rw [←hin2];exact HC.out.set2 HR.out (by decide) _ _
end Go.Proofs.YtmeodbjlmjpnbaaGreat.Pd.Lt
namespace Go.Proofs.YtmeodbjlmjpnbaaGreat.Pd.Lt
open Go.Sort Go.RowKit Go.Shelf
attribute [local go_sem] Oper.semAt_some
theorem tT:(Tryz.prog.info? 113).map (fun i=>(i.zero,i.size,i.bytes))=some (some (val zero),1,8):=by kernel_rfl
def xC (w:World)(B m:Nat)(pre:List El)(W:World):Prop :=
 (∃v,Boxed W B 456 v∧W.ownsRow m 113 1 v pre.length (pre.map one)∧True)∧Below w.heap.size w W
theorem qp (p:Option Addr)(xs:List El)(w:World)(hp:Ch one 295 w p xs)(h2:xs.length<2147483648) :
  Calls Tryz.prog 299 #[dA p xs.length] w fun e w' =>
   ∃v,e=.returned v∧Mine one 113 w' w.heap.size v xs∧Below w.heap.size w w':=by
 obtain ⟨i0,hi,hz0,hz1,hz2⟩:=info_parts tT;refine (callsIn_wide (n:=3)).1 ?_;refine callsIn_of_wp_marks Tryz.func299 rfl trivial ?_ rfl;simp only [Tryz.ntmps299,List.size_toArray,List.length_cons,List.length_nil,Nat.reduceAdd,Nat.reduceSub,Array.replicate_succ,Array.replicate_zero,List.push_toArray,List.append_toArray,List.nil_append,List.cons_append];have HP:=hdz hp;clear hp;gi_wp2_with (refine wpListIn_make_own _ rfl _ _ 456 rfl w.heap.size 113 i0 (val zero) 1 Tryz.underlying456 hi hz0 hz1 .i64 .i64 (xs.length:Int) xs.length rfl rfl rfl (by rw [hz2];omega) (by unfold maxLen;omega) (by simp) ?_;intro w1 hown hgrow;have hb1:Below (w.alloc (.cells #[.pointer p,.int .i64 xs.length] 242)).heap.size (w.alloc (.cells #[.pointer p,.int .i64 xs.length] 242)) w1:=⟨hgrow.os,hgrow.tape,hgrow.output,hgrow.size,fun k hk=>hgrow.block k hk (by simp)⟩;have bL:=((aB.new w 242 (.pointer p) (.int .i64 xs.length)).stay hb1).alloc (.cells #[.slice (some ⟨w.heap.size+1,0,none⟩) 0 xs.length] 456);have c0:=bL.c0;have c1:=bL.c1)
 have hs1:=hb1.size;simp only [World.size_alloc]at hs1 hown;have hB0:Below w.heap.size w (w1.alloc (.cells #[.slice (some ⟨w.heap.size+1,0,none⟩) 0 xs.length] 456)):=(((Below.refl w.heap.size w).alloc (Nat.le_refl _) _).trans (hb1.mono (by simp))).alloc (by omega) _;have bV:=Boxed.new w1 456 (.slice (some ⟨w.heap.size+1,0,none⟩) 0 xs.length);have HO:=hdz (hown.alloc (.cells #[.slice (some ⟨w.heap.size+1,0,none⟩) 0 xs.length] 456));have HT:=jd p xs xs.length (3 - 1) (by omega) w.heap.size _ hB0.size (Chain.below hB0 HP.out);have HS:=hdz (show w.heap.size+1≤w1.heap.size from hs1);clear hown hgrow hb1 bL c0 c1 hs1
 refine zJ rfl (by omega) (gf := 302) (fs:=#[dA p xs.length]) rfl trivial (enters_of Tryz.func302 (by kernel_rfl) rfl) HT hB0.size (xC w w1.heap.size w.heap.size)
  (OwnFrom.and (Own.from (holdsRow_own w.heap.size w1.heap.size 456 113 1 (fun pre:List El=>pre.length) (fun pre=>pre.map one) (fun _ _=>True)) _) (ownFrom_below (Nat.le_refl _) hB0.size))
  ⟨⟨_,bV,HO.out,trivial⟩,hB0⟩
  (fun x a1 W => ∃b,a1={ tmps:=#[dA p xs.length,.pointer (some ⟨w.heap.size,0,none⟩),.slice none 0 0,.pointer (some ⟨w1.heap.size,0,none⟩),.pointer (some ⟨b,0,none⟩),.pointer (some ⟨w.heap.size,1,none⟩),.int .i64 xs.length,.slice (some ⟨w.heap.size+1,0,none⟩) 0 xs.length,dA p xs.length,.func (.func 302) #[dA p xs.length] #[],val x,undef,undef,undef,undef,undef],defers:=[] }∧Boxed W b 113 (one x)) ?hJ ?assign ?body ?done
 case hJ =>
  rintro x a1 s A C row ⟨b,ha,hbx⟩ hg hr;exact ⟨b,ha,hbx.kept hg (fun e=>by obtain ⟨-,o,ho,hc⟩:=hr b e.symm;rw [show A.heap[b]?=_ from hbx]at ho;cases ho;cases hc)⟩
 case assign =>
  intro l x W K hK;gi_wp2
  exact hK _ _ ⟨W.heap.size,rfl,Boxed.new W 113 (one x)⟩ (bG _)
 case body =>
  rintro l pre x a1 W ⟨b,rfl,hbx⟩ ⟨⟨v,hv,hrow, -⟩,hB⟩ hlt;have hc:=hv.cell;have hx:=hbx.cell;clear HT hB0 bV HO HP hbx;gi_wp2_with (gi_at_builtin;refine wpListIn_append_own _ rfl _ _ 456 rfl w.heap.size 113 i0 (val zero) 1 8 Tryz.underlying456 hi hz0 hz1 hz2 rfl (by decide) _ _ _ rfl (hrow.alloc _) ⟨W.heap.size,0,none⟩ 1 1 [one x] rfl rfl (cell_one_new _ _ _) (by simp [Value.oneCell']) (by unfold maxLen;omega) (by omega) (by have:=hB.size;simp;omega) ?_;intro v' w2 hown' hgrow _;obtain ⟨g',cap',rfl⟩:=ownsRow_succ hown';obtain ⟨hv1,hv2,hr2,hk2,hb2⟩:=hv.appended (by decide) hrow hB.size (by have:=HS.out;omega) hown' hgrow;have hc1:=hv1.cell;have hf1:=hv1.frozen)
  exact ⟨hk2.from _,hb2,⟨_,hv2,by simpa using hr2,trivial⟩,hB.trans hb2⟩
 case done =>
  rintro D W hD ⟨⟨v,hv,hrow, -⟩,hB⟩ hK;have hc:=hv.cell;clear HT bV HO HP;gi_wp2
  refine ⟨by simp,.inl ⟨_,_,rfl,run_takeDeferred hK,?_⟩⟩;exact ⟨_,results_tmp rfl _ _ _,v,rfl,ownsRow_putObj hrow _ hK rfl,hB.trans (belowK_b (w:=w) (Nat.le_refl _) W D _ _ (Nat.le_trans hB0.size hD) hK rfl rfl)⟩
end Go.Proofs.YtmeodbjlmjpnbaaGreat.Pd.Lt
namespace Go.Proofs.YtmeodbjlmjpnbaaGreat.Pd.Lt
open Go.Sort Go.RowKit
def LL (W:World)(p:Option Addr)(n:Nat)(xs:List El):Prop:=Ch one 295 W p xs∧n=xs.length∧n<2147483648
theorem LL.stay {A B:World}{p:Option Addr}{n:Nat}{xs:List El}(h:LL A p n xs)(hb:Below A.heap.size A B):LL B p n xs:=⟨h.1.stay hb,h.2⟩
theorem LL.alloc {A:World}{p:Option Addr}{n:Nat}{xs:List El}(h:LL A p n xs)(o:Obj):LL (A.alloc o) p n xs:=⟨h.1.alloc o,h.2⟩
theorem LL.ch {A:World}{p:Option Addr}{n:Nat}{xs:List El}(h:LL A p n xs):Ch one 295 A p xs:=h.1
theorem LL.len {A:World}{p:Option Addr}{n:Nat}{xs:List El}(h:LL A p n xs):n=xs.length:=h.2.1
theorem LL.lt {A:World}{p:Option Addr}{n:Nat}{xs:List El}(h:LL A p n xs):n<2147483648:=h.2.2
theorem LL.none (A:World):LL A Option.none 0 []:=⟨Ch.none _,rfl,by decide⟩
def Gives (w:World)(xs:List El)(e:Ending)(w':World):Prop:=∃q,∃n:Nat,e=.returned (dA q n)∧LL w' q n xs∧Below w.heap.size w w'
theorem pY {w:World}{p:Option Addr}{n:Nat}{xs:List El}(x:El)(h:LL w p n xs)(hn:n+1<2147483648):Calls Tryz.prog 146 #[dA p n,val x] w (Gives w (x::xs)) :=
 (lm p xs n x w h.1 (by omega) (by omega)).mono fun e w' ⟨b,he,hc,hb⟩=>⟨_,n+1,by rw [he];simp,⟨hc,by rw [h.len];simp,hn⟩,hb⟩
theorem oC {w:World}{p:Option Addr}{n:Nat}{xs:List El}(h:LL w p n xs):Calls Tryz.prog 227 #[dA p n] w (Gives w xs.tail) :=
 (bS p xs n w h.1 h.len.symm h.lt).mono fun e w' ⟨q,he,hc,hb⟩=>⟨q,n - 1,he,⟨hc,by rw [h.len];simp,by have:=h.lt;omega⟩,hb⟩
theorem uV {w:World}{p:Option Addr}{n:Nat}{xs:List El}(z:Int)(h:LL w p n xs)(h0 : -9223372036854775808≤z)(h1:z<9223372036854775808):Calls Tryz.prog 300 #[dA p n,.int .i64 z] w (Gives w (xs.drop z.toNat)):=by
 have:=rD p xs z w h.1 (by rw [←h.len];exact h.lt) h0 h1;rw [←h.len]at this;exact this.mono fun e w' ⟨q,he,hc,hb⟩=>⟨q,n - z.toNat,he,⟨hc,by rw [h.len];simp,by have:=h.lt;omega⟩,hb⟩
theorem Cf {w:World}{p:Option Addr}{n:Nat}:Calls Tryz.prog 301 #[dA p n] w fun e w'=>e=.returned (.int .i64 n)∧Below w.heap.size w w':=tC p n w
theorem qK {w:World}{p:Option Addr}{n:Nat}{xs:List El}(h:LL w p n xs):Calls Tryz.prog 299 #[dA p n] w fun e w' =>
  ∃A c,e=.returned (.slice A n c)∧Mine one 113 w' w.heap.size (.slice A n c) xs∧Row1 one w' A xs∧n≤c∧Below w.heap.size w w':=by
 have:=qp p xs w h.1 (by rw [←h.len];exact h.lt);rw [←h.len]at this;refine this.mono fun e w' ⟨v,he,hm,hb⟩=>?_;obtain ⟨A,c,rfl,hr,hc, -, -⟩:=hm.form;rw [←h.len]at he hm hc;exact ⟨A,c,he,hm,hr,hc,hb⟩
end Go.Proofs.YtmeodbjlmjpnbaaGreat.Pd.Lt
namespace Go.Proofs.YtmeodbjlmjpnbaaGreat.Pd
open Go.Sort Go.RowKit
def au (t:TypeId):Prop:=t=244∨t=295
abbrev Kp (W W':World):Prop:=bO au W W'
theorem ax:¬au 89 := by unfold au;decide
theorem aj:¬au 113 := by unfold au;decide
theorem dh:¬au 242 := by unfold au;decide
def bB (x:Int×Int)(kp:Option Addr)(kn s:Nat):Obj :=
 .cells #[.int .i64 x.1,.int .i64 x.2,.pointer kp,.int .i64 (kn:Int),.int .i64 (s:Int)] 244 (0,0)
def iG (W:World):Kd→Option Addr→Prop
 | .nil,q=>q=none
 | .cons x ks r,q => ∃(b nb:Nat) (kp q':Option Addr),q=some ⟨b,0,none⟩∧W.heap[b]?=some (.cells #[.pointer (some ⟨nb,0,none⟩),.pointer q'] 295 (0,0))∧W.heap[nb]?=some (bB x kp ks.len (1+ks.size))∧iG W ks kp∧iG W r q'
def aA (W:World):Lh→Option Addr→Prop
 | .nil,p=>p=none
 | .node x ks,p => ∃(b:Nat) (kp:Option Addr),p=some ⟨b,0,none⟩∧W.heap[b]?=some (bB x kp ks.len (1+ks.size))∧iG W ks kp
abbrev hp (p:Option Addr):Value := .agg #[.pointer p]
section
variable {W W':World}
theorem iG.kp (h:Kp W W'):∀{t:Kd} {p:Option Addr},iG W t p→iG W' t p
 | .nil,_,hp=>hp
 | .cons _ _ _,_,⟨b,nb,kp,q',e,hb,hn,h1,h2⟩=>⟨b,nb,kp,q',e,h _ _ _ (.inr rfl) hb,h _ _ _ (.inl rfl) hn,iG.kp h h1,iG.kp h h2⟩
theorem iG.stay {t:Kd}{p:Option Addr}(hn:iG W t p)(h:Below W.heap.size W W'):iG W' t p:=hn.kp (bO.below h)
theorem aA.kp (h:Kp W W'){t:Lh}{p:Option Addr}(hn:aA W t p):aA W' t p:=by
 cases t with
 | nil=>exact hn
 | node x ks=>obtain ⟨b,kp,e,hb,hk⟩:=hn;exact ⟨b,kp,e,h _ _ _ (.inl rfl) hb,hk.kp h⟩
theorem aA.stay {t:Lh}{p:Option Addr}(hn:aA W t p)(h:Below W.heap.size W W'):aA W' t p:=hn.kp (bO.below h)
theorem aA.none (w:World):aA w .nil Option.none:=rfl
structure GZ (W:World)(b:Nat)(x:Int×Int)(kp:Option Addr)(kn s:Nat):Prop where
 c0:W.cell? ⟨b,0,none⟩=some (.int .i64 x.1)
 c1:W.cell? ⟨b,1,none⟩=some (.int .i64 x.2)
 c2:W.cell? ⟨b,2,none⟩=some (.pointer kp)
 c3:W.cell? ⟨b,3,none⟩=some (.int .i64 (kn:Int))
 c4:W.cell? ⟨b,4,none⟩=some (.int .i64 (s:Int))
theorem five {b:Nat}{x:Int×Int}{kp:Option Addr}{kn s:Nat}(h:W.heap[b]?=some (bB x kp kn s)):GZ W b x kp kn s:=by
 constructor<;>simp [World.cell?,h,bB]
theorem aT {b:Nat}{x:Int×Int}{kp:Option Addr}{kn s:Nat}(h:W.heap[b]?=some (bB x kp kn s))(hk:Kp W W'):GZ W' b x kp kn s:=five (hk b _ _ (.inl rfl) h)
def pK (W:World):List Lh→List (Option Addr)→Prop
 | [],ps=>ps=[]
 | t::ts,ps => ∃p ps',ps=p::ps'∧aA W t p∧pK W ts ps'
theorem pK.kp (h:Kp W W'):∀{ts:List Lh} {ps:List (Option Addr)},pK W ts ps→pK W' ts ps
 | [],_,hp=>hp
 | _::_,_,⟨p,ps',e,h1,h2⟩=>⟨p,ps',e,h1.kp h,pK.kp h h2⟩
theorem pK.length:∀{ts:List Lh} {ps:List (Option Addr)},pK W ts ps→ps.length=ts.length
 | [],_,h=>by rw [h];rfl
 | _::_,_,⟨_,_,e,_,h⟩=>by rw [e,List.length_cons,h.length,List.length_cons]
theorem pK.at:∀{ts:List Lh} {ps:List (Option Addr)} {j:Nat} {t:Lh},pK W ts ps→ts[j]?=some t → ∃p,ps[j]?=some p∧aA W t p
 | [],_,_,_,_,h=>by simp at h
 | u::_,_,0,t,⟨p,ps',e,h1,_⟩,h=>by
  have:u=t:=by simpa using h
  subst this;subst e;exact ⟨p,rfl,h1⟩
 | _::_,_,j+1,t,⟨p,ps',e,_,h2⟩,h=>by
  subst e;obtain ⟨q,hq,ht⟩:=pK.at (j:=j) h2 (by simpa using h);exact ⟨q,by simpa using hq,ht⟩
def _root_.Go.Proofs.YtmeodbjlmjpnbaaGreat.Pd.Kd.list:Kd→List Lh
 | .nil=>[]
 | .cons x ks r=>.node x ks::r.list
def _root_.Go.Proofs.YtmeodbjlmjpnbaaGreat.Pd.Kd.head:Kd→Lh
 | .nil=>.nil
 | .cons x ks _=>.node x ks
def _root_.Go.Proofs.YtmeodbjlmjpnbaaGreat.Pd.Kd.tail:Kd→Kd
 | .nil=>.nil
 | .cons _ _ r=>r
def _root_.Go.Proofs.YtmeodbjlmjpnbaaGreat.Pd.Kd.is:Kd→Bool
 | .nil=>false
 | .cons _ _ _=>true
theorem Kd.mh:∀ks:Kd,ks.list.length=ks.len
 | .nil=>rfl
 | .cons _ _ r=>by simp only [Kd.list,List.length_cons,Kd.len,r.mh]
theorem iG.list:∀{ks:Kd} {q:Option Addr},iG W ks q → ∃ps,Ch Lt.one 295 W q ps∧pK W ks.list ps
 | .nil,_,h=>⟨[],h,rfl⟩
 | .cons _ _ _,_,⟨b,nb,kp,q',e,hb,hn,h1,h2⟩=>by
  obtain ⟨ps,hc,hh⟩:=iG.list h2;exact ⟨some ⟨nb,0,Option.none⟩::ps,⟨b,q',e,lt_of_heap hb,hb,hc⟩,_,ps,rfl,⟨nb,kp,rfl,hn,h1⟩,hh⟩
theorem iG.AV {m:Nat}:∀{ks:Kd} {q:Option Addr} {ps:List (Option Addr)},Chain Lt.one 295 m W q ps→pK W ks.list ps→iG W ks q
 | .nil,_,_,hc,hh=>by
  obtain rfl:=hh;exact hc
 | .cons x ks r,_,_,hc,⟨p,ps',e,⟨nb,kp,ep,hn,hk⟩,hh⟩=>by
  subst e;subst ep;obtain ⟨b,q',eq,_,hb,hr⟩:=hc;exact ⟨b,nb,kp,q',eq,hb,hn,hk,iG.AV hr hh⟩
theorem iG.of {ks:Kd}{q:Option Addr}{ps:List (Option Addr)}(hc:Ch Lt.one 295 W q ps)(hh:pK W ks.list ps):iG W ks q:=iG.AV hc hh
def oD (W:World)(ts:List Lh)(p:Option Addr)(n:Nat):Prop:=∃ps,Lt.LL W p n ps∧pK W ts ps
theorem mY (h:Kp W W'):∀{m m':Nat} {p:Option Addr} {xs:List (Option Addr)},W.heap.size≤W'.heap.size→m≤W.heap.size→m'=W'.heap.size→Chain Lt.one 295 m W p xs→Chain Lt.one 295 m' W' p xs
 | _,_,_,[],_,_,_,hl=>hl
 | _,_,_,_::_,hs,hm,he,⟨b,q,hp,hb,hv,hr⟩=>⟨b,q,hp,by omega,h _ _ _ (.inr rfl) hv,mY h hs hm he hr⟩
theorem oD.kp {ts:List Lh}{p:Option Addr}{n:Nat}(hl:oD W ts p n)(h:Kp W W')(hs:W.heap.size≤W'.heap.size):oD W' ts p n:=by
 obtain ⟨ps,h1,h2⟩:=hl;exact ⟨ps,⟨mY h hs (Nat.le_refl _) rfl h1.1,h1.2⟩,h2.kp h⟩
theorem oD.stay {ts:List Lh}{p:Option Addr}{n:Nat}(hl:oD W ts p n)(h:Below W.heap.size W W'):oD W' ts p n:=hl.kp (bO.below h) h.size
theorem oD.none (W:World):oD W [] Option.none 0:=⟨[],Lt.LL.none W,rfl⟩
theorem oD.len {ts:List Lh}{p:Option Addr}{n:Nat}(hl:oD W ts p n):n=ts.length:=by
 obtain ⟨ps,h1,h2⟩:=hl;rw [h1.len,h2.length]
end
section
variable {w:World}{ks:Kd}{p:Option Addr}{n:Nat}
theorem iG.ll (h:iG w ks p)(hs:ks.len<2147483648):∃ps,Lt.LL w p ks.len ps∧pK w ks.list ps:=by
 obtain ⟨ps,h1,h2⟩:=h.list;exact ⟨ps,⟨h1,by rw [h2.length,Kd.mh],hs⟩,h2⟩
theorem Gy (h:iG w ks p)(hs:ks.len<2147483648):Calls Tryz.prog 227 #[Lt.dA p ks.len] w fun e w' => ∃q,e=.returned (Lt.dA q ks.tail.len)∧iG w' ks.tail q∧Below w.heap.size w w':=by
 obtain ⟨ps,h1,h2⟩:=h.ll hs;refine (Lt.oC h1).mono fun e w' ⟨q,m,he,hl,hb⟩=>?_;have h3:=h2.kp (bO.below hb)
 cases ks with
 | nil =>
  obtain rfl:=h3;have hm:m=0:=hl.len;subst hm;exact ⟨q,he,hl.ch,hb⟩
 | cons x ks r =>
  obtain ⟨q',ps',rfl, -,h4⟩:=h3;have hm:m=r.len:=by have h5:=hl.len;rw [List.tail_cons,h4.length,Kd.mh]at h5;exact h5
  subst hm;exact ⟨q,he,iG.of hl.ch h4,hb⟩
theorem GA {x:Int×Int}{ls:Kd}{q:Option Addr}(h:iG w ks p)(hq:aA w (.node x ls) q)(hs:ks.len+1<2147483648):Calls Tryz.prog 146 #[Lt.dA p ks.len,hp q] w fun e w' => ∃q',e=.returned (Lt.dA q' (ks.len+1:Nat))∧iG w' (.cons x ls ks) q'∧Below w.heap.size w w':=by
 obtain ⟨ps,h1,h2⟩:=h.ll (by omega);refine (Lt.pY q h1 hs).mono fun e w' ⟨q',m,he,hl,hb⟩=>?_;have hm:m=ks.len+1:=by have h5:=hl.len;rw [List.length_cons,h2.length,Kd.mh]at h5;exact h5
 subst hm;exact ⟨q',he,iG.of hl.ch ⟨q,ps,rfl,aA.stay hq hb,h2.kp (bO.below hb)⟩,hb⟩
theorem gN {ts:List Lh}{t:Lh}{q:Option Addr}(h:oD w ts p n)(hq:aA w t q)(hs:n+1<2147483648):Calls Tryz.prog 146 #[Lt.dA p n,hp q] w fun e w' => ∃q',e=.returned (Lt.dA q' (n+1:Nat))∧oD w' (t::ts) q' (n+1)∧Below w.heap.size w w':=by
 obtain ⟨ps,h1,h2⟩:=h;refine (Lt.pY q h1 hs).mono fun e w' ⟨q',m,he,hl,hb⟩=>?_;have hm:m=n+1:=by have h5:=hl.len;have h6:=h1.len;rw [List.length_cons]at h5;omega
 subst hm;exact ⟨q',he,⟨_,hl,q,ps,rfl,aA.stay hq hb,h2.kp (bO.below hb)⟩,hb⟩
theorem GN (h:iG w ks p)(hs:ks.len<2147483648):Calls Tryz.prog 300 #[Lt.dA p ks.len,.int .i64 2] w fun e w' => ∃q,e=.returned (Lt.dA q ks.tail.tail.len)∧iG w' ks.tail.tail q∧Below w.heap.size w w':=by
 obtain ⟨ps,h1,h2⟩:=h.ll hs;refine (Lt.uV 2 h1 (by decide) (by decide)).mono fun e w' ⟨q,m,he,hl,hb⟩=>?_;have h3:=h2.kp (bO.below hb);rw [show (2:Int).toNat=2 from rfl]at hl
 cases ks with
 | nil =>
  obtain rfl:=h3;have hm:m=0:=hl.len;subst hm;exact ⟨q,he,hl.ch,hb⟩
 | cons x ks r =>
  obtain ⟨q1,ps1,rfl, -,h4⟩:=h3
  cases r with
  | nil =>
   obtain rfl:=h4;have hm:m=0:=hl.len;subst hm;exact ⟨q,he,hl.ch,hb⟩
  | cons y ls r =>
   obtain ⟨q2,ps2,rfl, -,h5⟩:=h4;have hm:m=r.len:=by have h6:=hl.len;rw [List.drop_succ_cons,List.drop_succ_cons,List.drop_zero,h5.length,Kd.mh]at h6;exact h6
   subst hm;exact ⟨q,he,iG.of hl.ch h5,hb⟩
theorem pQ {ts:List Lh}(h:oD w ts p n):Calls Tryz.prog 299 #[Lt.dA p n] w fun e w' => ∃A c ps,e=.returned (.slice A n c)∧Mine Lt.one 113 w' w.heap.size (.slice A n c) ps∧Row1 Lt.one w' A ps∧pK w' ts ps∧n≤c∧Below w.heap.size w w':=by
 obtain ⟨ps,h1,h2⟩:=h;exact (Lt.qK h1).mono fun e w' ⟨A,c,he,hm,hr,hc,hb⟩=>⟨A,c,ps,he,hm,hr,h2.kp (bO.below hb),hc,hb⟩
end
def bU (mo:Option Nat)(c m:Int)(t:Lh)(w:World)(e:Ending)(w':World):Prop:=∃p,e=.returned (hp p)∧aA w' t p∧aW w' mo c m∧Bt mo w w'
end Go.Proofs.YtmeodbjlmjpnbaaGreat.Pd
namespace Go.Proofs.YtmeodbjlmjpnbaaGreat.Pd
open Go.Sort Go.RowKit
theorem alloc_old {w:World}{k:Nat}(o:Obj)(h:k<w.heap.size):(w.alloc o).heap[k]?=w.heap[k]?:=((Below.refl w.heap.size w).alloc (Nat.le_refl _) o).block k h
theorem aH {W:World}{b k:Nat}(j:Nat)(v:Value)(h:k≠b):(W.setCell ⟨b,j,none⟩ v).heap[k]?=W.heap[k]?:=Below.heap_setCell W ⟨b,j,none⟩ v k h
theorem eF (t:Lh)(p:Option Addr)(w:World)(h:aA w t p):Calls Tryz.prog 365 #[hp p] w fun e w'=>e=.returned (.int .i64 (t.size:Nat))∧Below w.heap.size w w':=by
 cases t with
 | nil =>
  obtain rfl:=h;go_enter Tryz.func365,Tryz.ntmps365
  go_wp2
  go_ret
  exact ⟨rfl,bG _⟩
 | node x ks =>
  obtain ⟨b,kp,rfl,hb, -⟩:=h;have hk:=aT (W':=w.alloc (.cells #[.pointer (some ⟨b,0,none⟩)] 113)) hb (bO.below (bG _));have c4:=hk.c4;clear hk hb;simp only [Lh.size];generalize 1+ks.size=n at *;go_enter Tryz.func365,Tryz.ntmps365
  go_wp2
  go_ret
  exact ⟨rfl,bG _⟩
abbrev fH (t:Lh):Value := .tuple #[el t.min.1,.bool t.min.2]
theorem iX (t:Lh)(p:Option Addr)(m:Value)(w:World)(h:aA w t p):Calls Tryz.prog 363 #[hp p,m] w fun e w'=>e=.returned (fH t)∧Below w.heap.size w w':=by
 cases t with
 | nil =>
  obtain rfl:=h;go_enter Tryz.func363,Tryz.ntmps363
  go_wp2
  refine bodyPost_ret (v:=fH .nil) (by simp [results,Tryz.results363,go_sem,Lh.min]) rfl ⟨rfl,?_⟩;exact ((Below.refl w.heap.size w).alloc (Nat.le_refl _) _).alloc (by simp) _
 | node x ks =>
  obtain ⟨b,kp,rfl,hb, -⟩:=h;obtain ⟨x1,x2⟩:=x;have hk:=aT (W':=(w.alloc (.cells #[.pointer (some ⟨b,0,none⟩)] 113)).alloc (.cells #[.int .i64 0,.int .i64 0] 29)) hb (bO.below ((bG _).alloc (by simp) _));have c0:=hk.c0;have c1:=hk.c1;clear hk hb;go_enter Tryz.func363,Tryz.ntmps363
  go_wp2
  refine bodyPost_ret (v:=fH (.node (x1,x2) ks)) (by simp [results,Tryz.results363,go_sem,Lh.min]) rfl ⟨rfl,?_⟩;exact ((Below.refl w.heap.size w).alloc (Nat.le_refl _) _).alloc (by simp) _
theorem _root_.Go.Proofs.YtmeodbjlmjpnbaaGreat.dL.below {N:TypeId→Prop}{mo:Option Nat}{c m:Int}{w W:World}(hm:aW w mo c m)(hb:Below w.heap.size w W):dL N mo w c m W:=(dL.refl hm).stay hb
theorem gX (mo:Option Nat)(c m:Int)(x1 x2:Int)(ks:Kd)(kp:Option Addr)(n s:Nat)(w:World)(hm:aW w mo c m)(h2:0≤m)(h3:m<4611686018427387904)(hk:iG w ks kp)(hn:n=ks.len)(hs:s=1+ks.size) :
  Calls Tryz.prog 118 #[aF mo,.agg #[.int .i64 x1,.int .i64 x2,.pointer kp,.int .i64 (n:Int),.int .i64 (s:Int)]] w (bU mo c (m+1) (.node (x1,x2) ks) w):=by
 have hb1:Below w.heap.size w ((w.alloc (bB (x1,x2) kp n s)).alloc (.cells #[.pointer none] 113)):=(bG _).alloc (by simp) _;have e1:((w.alloc (bB (x1,x2) kp n s)).alloc (.cells #[.pointer none] 113)).heap[w.heap.size]?=some (bB (x1,x2) kp n s):=(alloc_old _ (by simp)).trans (aJ rfl);have e2:((w.alloc (bB (x1,x2) kp n s)).alloc (.cells #[.pointer none] 113)).heap[w.heap.size+1]?=some (.cells #[.pointer none] 113 (0,0)):=aJ (by simp);have K1:dL au mo w c m ((w.alloc (bB (x1,x2) kp n s)).alloc (.cells #[.pointer none] 113)):=dL.below hm hb1;have HX:=hdz (af K1 (af e1 (af e2 (af hk (af hn hs)))));clear hb1 e1 e2 K1 hk hn hs hm;unfold bB at HX;go_enter Tryz.func118,Tryz.ntmps118
 go_wp2_with fail
 generalize (w.alloc _).alloc (.cells #[.pointer none] 113)=w1 at *;obtain ⟨a,ha⟩:=aU (w.heap.size);rw [←ha]at HX ⊢;have HA:=hdz ha;clear ha;((with_reducible refine (mZ mo c m _ HX.out.1.mt h2 h3).mono ?_);rintro e w2 ⟨rfl,hm2,hb2⟩);have K2:=HX.out.1.turn hm2 hb2 ax;have R2:=hb2.row HX.out.1.mt HX.out.2.2.1 (by decide);have N2:=hb2.row HX.out.1.mt HX.out.2.1 (by decide);have r0:w2.cell? ⟨a+1,0,none⟩=some (.pointer none):=by simp [World.cell?,R2]
 have z0:w2.frozen? ⟨a+1,0,none⟩=false:=by simp [World.frozen?,R2]
 have Y:=hdz (af K2 (af R2 N2));clear hm2 hb2 K2 R2 N2;go_wp2_with fail
 have hk:=(Y.out.1.put Y.out.2.1 aj (by decide) (by rw [←HA.out];omega) 0 (.pointer (some ⟨a,0,none⟩)));refine bodyPost_ret (v:=hp (some ⟨a,0,none⟩)) (by simp [results,Tryz.results118,go_sem,r0]) rfl ⟨_,rfl,?_,hk.mt,hk.bt⟩;refine ⟨a,kp,rfl,?_,HX.out.2.2.2.1.kp hk.kp⟩;rw [aH _ _ (by omega),Y.out.2.2,HX.out.2.2.2.2.1,HX.out.2.2.2.2.2];rfl
end Go.Proofs.YtmeodbjlmjpnbaaGreat.Pd
namespace Go.Proofs.YtmeodbjlmjpnbaaGreat.Pd
open Go.Sort Go.RowKit
theorem ja (mo:Option Nat)(q:Option Addr)(w:World):Calls Tryz.prog 119 #[hp none,aF mo,hp q] w fun e w'=>e=.returned (hp q)∧Below w.heap.size w w':=by
 go_enter Tryz.func119,Tryz.ntmps119
 go_wp2_with fail
 refine bodyPost_ret (v:=hp q) (by simp [results,Tryz.results119,go_sem]) rfl ⟨rfl,?_⟩;exact ((bG _).alloc (by simp) _).alloc (by simp only [World.size_alloc];omega) _
theorem ig (mo:Option Nat)(b:Nat)(w:World):Calls Tryz.prog 119 #[hp (some ⟨b,0,none⟩),aF mo,hp none] w fun e w'=>e=.returned (hp (some ⟨b,0,none⟩))∧Below w.heap.size w w':=by
 go_enter Tryz.func119,Tryz.ntmps119
 go_wp2_with fail
 refine bodyPost_ret (v:=hp (some ⟨b,0,none⟩)) (by simp [results,Tryz.results119,go_sem]) rfl ⟨rfl,?_⟩;exact ((bG _).alloc (by simp) _).alloc (by simp only [World.size_alloc];omega) _
def bJ (W:World)(b:Nat)(p:Option Addr):Prop:=W.heap[b]?=some (.cells #[.pointer p] 113 (0,0))
structure Fm (W:World)(a bw bl:Nat)(pa pb pw pl:Option Addr):Prop where
 h:bJ W a pa
 o:bJ W (a+1) pb
 r:bJ W (a+1+1) none
 w:bJ W bw pw
 l:bJ W bl pl
 ne:bw≠bl
 gw:a+1+1<bw
 gl:a+1+1<bl
section
variable {W W':World}{a bw bl:Nat}{pa pb pw pl:Option Addr}{mo:Option Nat}{c m:Int}
theorem Bq (w:World)(pa pb:Option Addr):bJ (((w.alloc (.cells #[.pointer pa] 113)).alloc (.cells #[.pointer pb] 113)).alloc (.cells #[.pointer none] 113)) w.heap.size pa∧bJ (((w.alloc (.cells #[.pointer pa] 113)).alloc (.cells #[.pointer pb] 113)).alloc (.cells #[.pointer none] 113)) (w.heap.size+1) pb∧bJ (((w.alloc (.cells #[.pointer pa] 113)).alloc (.cells #[.pointer pb] 113)).alloc (.cells #[.pointer none] 113)) (w.heap.size+1+1) none:=by
 unfold bJ;refine ⟨?_,?_,?_⟩
 ·rw [alloc_old _ (by simp only [World.size_alloc];omega),alloc_old _ (by simp only [World.size_alloc];omega)];exact aJ rfl
 ·rw [alloc_old _ (by simp only [World.size_alloc];omega)];exact aJ (by simp)
 ·exact aJ (by simp)
theorem bJ.alloc {b:Nat}{p:Option Addr}(h:bJ W b p)(o:Obj):bJ (W.alloc o) b p:=(alloc_old o (lt_of_heap h)).trans h
theorem bJ.at {b:Nat}{p:Option Addr}(h:b=W.heap.size):bJ (W.alloc (.cells #[.pointer p] 113)) b p:=aJ h
theorem zy (w:World)(pa pb p q:Option Addr):Fm (((((w.alloc (.cells #[.pointer pa] 113)).alloc (.cells #[.pointer pb] 113)).alloc (.cells #[.pointer none] 113)).alloc (.cells #[.pointer p] 113)).alloc (.cells #[.pointer q] 113)).drew w.heap.size (w.heap.size+1+1+1) (w.heap.size+1+1+1+1) pa pb p q:=by
 obtain ⟨h1,h2,h3⟩:=Bq w pa pb;exact ⟨(h1.alloc _).alloc _,(h2.alloc _).alloc _,(h3.alloc _).alloc _,bJ.alloc (bJ.at (by simp)) _,bJ.at (by simp),by omega,by omega,by omega⟩
theorem Fm.swap (h:Fm W a bw bl pa pb pw pl):Fm W a bl bw pa pb pl pw:=⟨h.h,h.o,h.r,h.l,h.w,fun e=>h.ne e.symm,h.gl,h.gw⟩
theorem Fm.turn (h:Fm W a bw bl pa pb pw pl)(hb:Bt mo W W')(hm:aW W mo c m):Fm W' a bw bl pa pb pw pl :=
 ⟨hb.row hm h.h (by decide),hb.row hm h.o (by decide),hb.row hm h.r (by decide),hb.row hm h.w (by decide),hb.row hm h.l (by decide),h.ne,h.gw,h.gl⟩
theorem Fm.stay (h:Fm W a bw bl pa pb pw pl)(hb:Below W.heap.size W W'):Fm W' a bw bl pa pb pw pl :=
 ⟨(hb.block _ (lt_of_heap h.h)).trans h.h,(hb.block _ (lt_of_heap h.o)).trans h.o,(hb.block _ (lt_of_heap h.r)).trans h.r,(hb.block _ (lt_of_heap h.w)).trans h.w,(hb.block _ (lt_of_heap h.l)).trans h.l,h.ne,h.gw,h.gl⟩
theorem bJ.c0 {b:Nat}{p:Option Addr}(h:bJ W b p):W.cell? ⟨b,0,none⟩=some (.pointer p):=by unfold bJ at h;simp [World.cell?,h]
theorem bJ.z0 {b:Nat}{p:Option Addr}(h:bJ W b p):W.frozen? ⟨b,0,none⟩=false:=by unfold bJ at h;simp [World.frozen?,h]
theorem Fm.put (h:Fm W a bw bl pa pb pw pl)(p q:Option Addr):Fm ((W.setCell ⟨bw,0,none⟩ (.pointer p)).setCell ⟨bl,0,none⟩ (.pointer q)) a bw bl pa pb p q:=by
 have h1:=h.ne;have h2:=h.gw;have h3:=h.gl;refine ⟨?_,?_,?_,?_,?_,h1,h2,h3⟩
 ·exact (aH _ _ (by omega)).trans ((aH _ _ (by omega)).trans h.h)
 ·exact (aH _ _ (by omega)).trans ((aH _ _ (by omega)).trans h.o)
 ·exact (aH _ _ (by omega)).trans ((aH _ _ (by omega)).trans h.r)
 ·exact (aH _ _ (by omega)).trans (heap_put (j:=0) h.w _)
 ·exact heap_put (j:=0) ((aH _ _ (by omega)).trans h.l) _
end
section
variable {w:World}{ks:Kd}{p:Option Addr}{n:Nat}
theorem Ca {x:Int×Int}{ls:Kd}{q:Option Addr}(h:iG w ks p)(hq:aA w (.node x ls) q)(hn:n=ks.len)(hs:n+1<2147483648):Calls Tryz.prog 146 #[Lt.dA p n,hp q] w fun e w' => ∃(q':Option Addr) (n':Nat),e=.returned (Lt.dA q' n')∧iG w' (.cons x ls ks) q'∧n'=n+1∧Below w.heap.size w w':=by
 subst hn;exact (GA h hq hs).mono fun _ _ ⟨q',he,hk,hb⟩=>⟨q',_,he,hk,rfl,hb⟩
end
theorem vC (mo:Option Nat)(x1 x2 y1 y2:Int)(ks ls:Kd)(hs:(Lh.node (x1,x2) ks).size+(Lh.node (y1,y2) ls).size<268435456)(hv:dH (y1,y2) (x1,x2)=true)(c m:Int)(pa pb:Nat)(w:World)
  (hm:aW w mo c m) (h0:0≤c) (h1:c<1152921504606846976) (h2:0≤m) (h3:m<1152921504606846976) (ha:aA w (.node (x1,x2) ks) (some ⟨pa,0,none⟩)) (hb:aA w (.node (y1,y2) ls) (some ⟨pb,0,none⟩)) :
  Calls Tryz.prog 119 #[hp (some ⟨pa,0,none⟩),aF mo,hp (some ⟨pb,0,none⟩)] w (bU mo (c+1) (m+1) (bI (.node (x1,x2) ks) (.node (y1,y2) ls)) w):=by
 rw [fw hv];have HA0:=hdz ha;have HB0:=hdz hb;obtain ⟨_,kp,ea,hah,hak⟩:=ha
 cases ea
 obtain ⟨_,lp,eb,Iz,hbk⟩:=hb
 cases eb
 obtain ⟨sa,hsa⟩:=aU (1+ks.size);obtain ⟨sb,hsb⟩:=aU (1+ls.size);obtain ⟨na,hna⟩:=aU (ks.len);obtain ⟨nb,hnb⟩:=aU (ls.len);rw [←hsa,←hna]at hah;rw [←hsb,←hnb]at Iz;have HC:=hdz (af hah Iz);have HK:=hdz (af hak hbk);have HN:=hdz (show 0≤c∧c<1152921504606846976∧0≤m∧m<1152921504606846976∧pa<w.heap.size∧pb<w.heap.size∧sa+sb<268435456∧sa=1+ks.size∧sb=1+ls.size∧na=ks.len∧nb=ls.len∧na≤sa∧nb≤sb from ⟨h0,h1,h2,h3,lt_of_heap hah,lt_of_heap Iz,by simp only [Lh.size]at hs;omega,hsa,hsb,hna,hnb,by have:=ks.fE;omega,by have:=ls.fE;omega⟩);have HV:=hdz hv;have HM:=hdz hm;clear hah Iz hak hbk hs h0 h1 h2 h3 hv hm hsa hsb hna hnb;go_enter Tryz.func119,Tryz.ntmps119
 go_wp2_with fail
 go_region
 focus
  have hb1:Below w.heap.size w ((((((w.alloc (.cells #[.pointer (some ⟨pa,0,none⟩)] 113)).alloc (.cells #[.pointer (some ⟨pb,0,none⟩)] 113)).alloc (.cells #[.pointer none] 113)).alloc (.cells #[.pointer (some ⟨pa,0,none⟩)] 113)).alloc (.cells #[.pointer (some ⟨pb,0,none⟩)] 113)).drew):=((((bG _).alloc (by simp) _).alloc (by simp only [World.size_alloc];omega) _).alloc (by simp only [World.size_alloc];omega) _).alloc (by simp only [World.size_alloc];omega) _ |>.drew;have HF:=hdz (zy w (some ⟨pa,0,none⟩) (some ⟨pb,0,none⟩) (some ⟨pa,0,none⟩) (some ⟨pb,0,none⟩));have KK:=hdz (dL.below (N:=au) (mo:=mo) HM.out hb1);clear hb1;generalize (((((w.alloc (.cells #[.pointer (some ⟨pa,0,none⟩)] 113)).alloc (.cells #[.pointer (some ⟨pb,0,none⟩)] 113)).alloc (.cells #[.pointer none] 113)).alloc (.cells #[.pointer (some ⟨pa,0,none⟩)] 113)).alloc (.cells #[.pointer (some ⟨pb,0,none⟩)] 113)).drew=w1 at *;obtain ⟨a,ha⟩:=aU (w.heap.size);rw [←ha]at HF ⊢;have HA:=hdz ha;clear ha;generalize a+1+1+1+1=bl at *;generalize a+1+1+1=bw at *
 rotate_left
 focus
  have hb1:Below w.heap.size w ((((((w.alloc (.cells #[.pointer (some ⟨pa,0,none⟩)] 113)).alloc (.cells #[.pointer (some ⟨pb,0,none⟩)] 113)).alloc (.cells #[.pointer none] 113)).alloc (.cells #[.pointer (some ⟨pb,0,none⟩)] 113)).alloc (.cells #[.pointer (some ⟨pa,0,none⟩)] 113)).drew):=((((bG _).alloc (by simp) _).alloc (by simp only [World.size_alloc];omega) _).alloc (by simp only [World.size_alloc];omega) _).alloc (by simp only [World.size_alloc];omega) _ |>.drew;have HF:=hdz (zy w (some ⟨pa,0,none⟩) (some ⟨pb,0,none⟩) (some ⟨pb,0,none⟩) (some ⟨pa,0,none⟩));have HF:=hdz HF.out.swap;have KK:=hdz (dL.below (N:=au) (mo:=mo) HM.out hb1);clear hb1;generalize (((((w.alloc (.cells #[.pointer (some ⟨pa,0,none⟩)] 113)).alloc (.cells #[.pointer (some ⟨pb,0,none⟩)] 113)).alloc (.cells #[.pointer none] 113)).alloc (.cells #[.pointer (some ⟨pb,0,none⟩)] 113)).alloc (.cells #[.pointer (some ⟨pa,0,none⟩)] 113)).drew=w1 at *;obtain ⟨a,ha⟩:=aU (w.heap.size);rw [←ha]at HF ⊢;have HA:=hdz ha;clear ha;generalize a+1+1+1+1=bw at *;generalize a+1+1+1=bl at *
 rotate_left
 all_goals
  have f0:=HF.out.h.c0;have f1:=HF.out.o.c0;have a0:=(aT HC.out.1 KK.out.kp).c0;have a1:=(aT HC.out.1 KK.out.kp).c1;have b0:=(aT HC.out.2 KK.out.kp).c0;have b1:=(aT HC.out.2 KK.out.kp).c1;go_wp2_with fail
  go_region_held3 (fun w'=>w'.cell? ⟨a,0,none⟩=some (.pointer (some ⟨pa,0,none⟩))∧w'.cell? ⟨a+1,0,none⟩=some (.pointer (some ⟨pb,0,none⟩))∧w'.cell? ⟨pa,0,none⟩=some (.int .i64 x1)∧w'.cell? ⟨pa,1,none⟩=some (.int .i64 x2)∧w'.cell? ⟨pb,0,none⟩=some (.int .i64 y1)∧w'.cell? ⟨pb,1,none⟩=some (.int .i64 y2)) (go_keep)
   (first|(go_at_call 140;((with_reducible refine (lM mo c m (y1,y2) (x1,x2) _ KK.out.drew.mt HN.out.1 (by have:=HN.out.2.1;omega)).mono ?_);rintro e w2 ⟨rfl,hm2,hb2⟩;rw [HV.out];have F2:=hdz ((HF.out.stay ((Below.refl _ _).drew)).turn hb2 KK.out.drew.mt);have K2:=hdz (KK.out.drew.turn hm2 hb2 ax);have g0:=F2.out.h.c0;have g1:=F2.out.o.c0;have c0:=(aT HC.out.1 K2.out.kp).c0;have c1:=(aT HC.out.1 K2.out.kp).c1;have d0:=(aT HC.out.2 K2.out.kp).c0;have d1:=(aT HC.out.2 K2.out.kp).c1;clear hm2 hb2)))
  clear f0 f1 a0 a1 b0 b1 c0 c1 d0 d1;have z1:=F2.out.w.z0;have y1:=F2.out.w.c0;have y2:=F2.out.l.c0;have z2:=F2.out.l.z0;have n1:¬bw=bl:=by have:=F2.out.ne;have:=F2.out.gw;have:=F2.out.gl;omega
  have n1b:¬bl=bw:=fun e=>n1 e.symm;have n3:¬a=bw:=by have:=F2.out.ne;have:=F2.out.gw;have:=F2.out.gl;omega
  have n3b:¬bw=a:=fun e=>n3 e.symm;have n4:¬a+1=bw:=by have:=F2.out.ne;have:=F2.out.gw;have:=F2.out.gl;omega
  have n4b:¬bw=a+1:=fun e=>n4 e.symm;have n5:¬a=bl:=by have:=F2.out.ne;have:=F2.out.gw;have:=F2.out.gl;omega
  have n5b:¬bl=a:=fun e=>n5 e.symm;have n6:¬a+1=bl:=by have:=F2.out.ne;have:=F2.out.gw;have:=F2.out.gl;omega
  have n6b:¬bl=a+1:=fun e=>n6 e.symm;go_wp2_with fail
  go_region
  clear g0 g1 z1 z2 y1 y2 n1 n1b n3 n3b n4 n4b n5 n5b n6 n6b;have F3:=hdz (F2.out.put (some ⟨pb,0,none⟩) (some ⟨pa,0,none⟩) |>.stay ((Below.refl _ _).drew));have K3:=hdz (((K2.out.put F2.out.w aj (by decide) (by rw [←HA.out];have:=F2.out.gw;omega) 0 (.pointer (some ⟨pb,0,none⟩))).put ((aH (b:=bw) 0 (.pointer (some ⟨pb,0,none⟩)) (fun e=>F2.out.ne e.symm)).trans F2.out.l) aj (by decide) (by rw [←HA.out];have:=F2.out.gl;omega) 0 (.pointer (some ⟨pa,0,none⟩))).drew);generalize ((w2.setCell ⟨bw,0,none⟩ (.pointer (some ⟨pb,0,none⟩))).setCell ⟨bl,0,none⟩ (.pointer (some ⟨pa,0,none⟩))).drew=w3 at *;have e0:=F3.out.w.c0;have e1:=F3.out.l.c0;have w0':=(aT HC.out.2 K3.out.kp).c0;have w1':=(aT HC.out.2 K3.out.kp).c1;have w2':=(aT HC.out.2 K3.out.kp).c2;have w3':=(aT HC.out.2 K3.out.kp).c3;have w4':=(aT HC.out.2 K3.out.kp).c4;have l4':=(aT HC.out.1 K3.out.kp).c4;obtain ⟨st,hst⟩:=aU (sb+sa);have HST:=hdz hst;have ew:IntKind.i64.wrap ((sb:Int)+(sa:Int))=(st:Int):=by have:=HN.out;rw [IntKind.wrap_i64];omega
  clear hst;have n1:¬pb=a+1+1:=by have h7:=HA.out;have h8:=HN.out;have:=F3.out.gw;have:=F3.out.gl;omega
  have n1b:¬a+1+1=pb:=fun e=>n1 e.symm;have n2:¬pa=a+1+1:=by have h7:=HA.out;have h8:=HN.out;have:=F3.out.gw;have:=F3.out.gl;omega
  have n2b:¬a+1+1=pa:=fun e=>n2 e.symm;have n3:¬bw=a+1+1:=by have h7:=HA.out;have h8:=HN.out;have:=F3.out.gw;have:=F3.out.gl;omega
  have n3b:¬a+1+1=bw:=fun e=>n3 e.symm;have n4:¬bl=a+1+1:=by have h7:=HA.out;have h8:=HN.out;have:=F3.out.gw;have:=F3.out.gl;omega
  have n4b:¬a+1+1=bl:=fun e=>n4 e.symm;go_wp2_with fail
  go_region_held3 (fun w'=>w'.cell? ⟨bw,0,none⟩=some (.pointer (some ⟨pb,0,none⟩))∧w'.cell? ⟨bl,0,none⟩=some (.pointer (some ⟨pa,0,none⟩))∧w'.cell? ⟨pb,0,none⟩=some (.int .i64 y1)∧w'.cell? ⟨pb,1,none⟩=some (.int .i64 y2)∧w'.cell? ⟨pb,2,none⟩=some (.pointer lp)∧w'.cell? ⟨pb,3,none⟩=some (.int .i64 (nb:Int))∧w'.cell? ⟨pb,4,none⟩=some (.int .i64 (sb:Int))∧w'.cell? ⟨pa,4,none⟩=some (.int .i64 (sa:Int))) (go_keep)
   (first|(go_at_call 118;((with_reducible refine (gX mo (c+1) m y1 y2 (.cons (x1,x2) ks ls) q4 n4 st _ K4.out.mt (by have:=HN.out;omega) (by have:=HN.out;omega) T4.out (by have:=HN.out;have:=HN4.out;simp only [Kd.len];omega) (by have:=HN.out;have:=HST.out;simp only [Kd.size];omega)).mono ?_);rintro e w5 ⟨p5,rfl,Ip,Im,hb5⟩;have F5:=hdz (F4.out.turn hb5 K4.out.mt);have K5:=hdz (K4.out.turn Im hb5 ax);have T5:=hdz Ip;have q0:=F5.out.w.c0;have q1:=F5.out.l.c0;have qw0:=(aT HC.out.2 K5.out.kp).c0;have qw1:=(aT HC.out.2 K5.out.kp).c1;have qw2:=(aT HC.out.2 K5.out.kp).c2;have qw3:=(aT HC.out.2 K5.out.kp).c3;have qw4:=(aT HC.out.2 K5.out.kp).c4;have ql4:=(aT HC.out.1 K5.out.kp).c4;have r5:=F5.out.r.c0;have z5:=F5.out.r.z0;clear Ip Im hb5))|(go_at_call 146;((with_reducible refine (Ca (ks:=ls) (ls:=ks) (n:=nb) (x:=(x1,x2)) (HK.out.2.kp K3.out.drew.kp) (HA0.out.kp K3.out.drew.kp) (by have:=HN.out;omega) (by have:=HN.out;omega)).mono ?_);rintro e w4 ⟨q4,n4,rfl,hq4,hn4,hb4⟩;have HN4:=hdz hn4;have F4:=hdz ((F3.out.stay ((Below.refl _ _).drew)).stay hb4);have K4:=hdz (K3.out.drew.stay hb4);have T4:=hdz hq4;have p0:=F4.out.w.c0;have p1:=F4.out.l.c0;have pw0:=(aT HC.out.2 K4.out.kp).c0;have pw1:=(aT HC.out.2 K4.out.kp).c1;have pw2:=(aT HC.out.2 K4.out.kp).c2;have pw3:=(aT HC.out.2 K4.out.kp).c3;have pw4:=(aT HC.out.2 K4.out.kp).c4;have pl4:=(aT HC.out.1 K4.out.kp).c4;clear hq4 hn4 hb4)))
  go_wp2_with fail
  have hk:=(K5.out.put F5.out.r aj (by decide) (by rw [←HA.out];omega) 0 (.pointer p5));exact bodyPost_ret (v:=hp p5) (by simp [results,Tryz.results119,go_sem,r5]) rfl ⟨_,rfl,T5.out.kp (bO.set F5.out.r aj 0 _),hk.mt,hk.bt⟩
theorem sO (mo:Option Nat)(x1 x2 y1 y2:Int)(ks ls:Kd)(hs:(Lh.node (x1,x2) ks).size+(Lh.node (y1,y2) ls).size<268435456)(hv:dH (y1,y2) (x1,x2)=false)(c m:Int)(pa pb:Nat)(w:World)
  (hm:aW w mo c m) (h0:0≤c) (h1:c<1152921504606846976) (h2:0≤m) (h3:m<1152921504606846976) (ha:aA w (.node (x1,x2) ks) (some ⟨pa,0,none⟩)) (hb:aA w (.node (y1,y2) ls) (some ⟨pb,0,none⟩)) :
  Calls Tryz.prog 119 #[hp (some ⟨pa,0,none⟩),aF mo,hp (some ⟨pb,0,none⟩)] w (bU mo (c+1) (m+1) (bI (.node (x1,x2) ks) (.node (y1,y2) ls)) w):=by
 rw [iY hv];have HA0:=hdz ha;have HB0:=hdz hb;obtain ⟨_,kp,ea,hah,hak⟩:=ha
 cases ea
 obtain ⟨_,lp,eb,Iz,hbk⟩:=hb
 cases eb
 obtain ⟨sa,hsa⟩:=aU (1+ks.size);obtain ⟨sb,hsb⟩:=aU (1+ls.size);obtain ⟨na,hna⟩:=aU (ks.len);obtain ⟨nb,hnb⟩:=aU (ls.len);rw [←hsa,←hna]at hah;rw [←hsb,←hnb]at Iz;have HC:=hdz (af hah Iz);have HK:=hdz (af hak hbk);have HN:=hdz (show 0≤c∧c<1152921504606846976∧0≤m∧m<1152921504606846976∧pa<w.heap.size∧pb<w.heap.size∧sa+sb<268435456∧sa=1+ks.size∧sb=1+ls.size∧na=ks.len∧nb=ls.len∧na≤sa∧nb≤sb from ⟨h0,h1,h2,h3,lt_of_heap hah,lt_of_heap Iz,by simp only [Lh.size]at hs;omega,hsa,hsb,hna,hnb,by have:=ks.fE;omega,by have:=ls.fE;omega⟩);have HV:=hdz hv;have HM:=hdz hm;clear hah Iz hak hbk hs h0 h1 h2 h3 hv hm hsa hsb hna hnb;go_enter Tryz.func119,Tryz.ntmps119
 go_wp2_with fail
 go_region
 focus
  have hb1:Below w.heap.size w ((((((w.alloc (.cells #[.pointer (some ⟨pa,0,none⟩)] 113)).alloc (.cells #[.pointer (some ⟨pb,0,none⟩)] 113)).alloc (.cells #[.pointer none] 113)).alloc (.cells #[.pointer (some ⟨pa,0,none⟩)] 113)).alloc (.cells #[.pointer (some ⟨pb,0,none⟩)] 113)).drew):=((((bG _).alloc (by simp) _).alloc (by simp only [World.size_alloc];omega) _).alloc (by simp only [World.size_alloc];omega) _).alloc (by simp only [World.size_alloc];omega) _ |>.drew;have HF:=hdz (zy w (some ⟨pa,0,none⟩) (some ⟨pb,0,none⟩) (some ⟨pa,0,none⟩) (some ⟨pb,0,none⟩));have KK:=hdz (dL.below (N:=au) (mo:=mo) HM.out hb1);clear hb1;generalize (((((w.alloc (.cells #[.pointer (some ⟨pa,0,none⟩)] 113)).alloc (.cells #[.pointer (some ⟨pb,0,none⟩)] 113)).alloc (.cells #[.pointer none] 113)).alloc (.cells #[.pointer (some ⟨pa,0,none⟩)] 113)).alloc (.cells #[.pointer (some ⟨pb,0,none⟩)] 113)).drew=w1 at *;obtain ⟨a,ha⟩:=aU (w.heap.size);rw [←ha]at HF ⊢;have HA:=hdz ha;clear ha;generalize a+1+1+1+1=bl at *;generalize a+1+1+1=bw at *
 rotate_left
 focus
  have hb1:Below w.heap.size w ((((((w.alloc (.cells #[.pointer (some ⟨pa,0,none⟩)] 113)).alloc (.cells #[.pointer (some ⟨pb,0,none⟩)] 113)).alloc (.cells #[.pointer none] 113)).alloc (.cells #[.pointer (some ⟨pb,0,none⟩)] 113)).alloc (.cells #[.pointer (some ⟨pa,0,none⟩)] 113)).drew):=((((bG _).alloc (by simp) _).alloc (by simp only [World.size_alloc];omega) _).alloc (by simp only [World.size_alloc];omega) _).alloc (by simp only [World.size_alloc];omega) _ |>.drew;have HF:=hdz (zy w (some ⟨pa,0,none⟩) (some ⟨pb,0,none⟩) (some ⟨pb,0,none⟩) (some ⟨pa,0,none⟩));have HF:=hdz HF.out.swap;have KK:=hdz (dL.below (N:=au) (mo:=mo) HM.out hb1);clear hb1;generalize (((((w.alloc (.cells #[.pointer (some ⟨pa,0,none⟩)] 113)).alloc (.cells #[.pointer (some ⟨pb,0,none⟩)] 113)).alloc (.cells #[.pointer none] 113)).alloc (.cells #[.pointer (some ⟨pb,0,none⟩)] 113)).alloc (.cells #[.pointer (some ⟨pa,0,none⟩)] 113)).drew=w1 at *;obtain ⟨a,ha⟩:=aU (w.heap.size);rw [←ha]at HF ⊢;have HA:=hdz ha;clear ha;generalize a+1+1+1+1=bw at *;generalize a+1+1+1=bl at *
 rotate_left
 all_goals
  have f0:=HF.out.h.c0;have f1:=HF.out.o.c0;have a0:=(aT HC.out.1 KK.out.kp).c0;have a1:=(aT HC.out.1 KK.out.kp).c1;have b0:=(aT HC.out.2 KK.out.kp).c0;have b1:=(aT HC.out.2 KK.out.kp).c1;go_wp2_with fail
  go_region_held3 (fun w'=>w'.cell? ⟨a,0,none⟩=some (.pointer (some ⟨pa,0,none⟩))∧w'.cell? ⟨a+1,0,none⟩=some (.pointer (some ⟨pb,0,none⟩))∧w'.cell? ⟨pa,0,none⟩=some (.int .i64 x1)∧w'.cell? ⟨pa,1,none⟩=some (.int .i64 x2)∧w'.cell? ⟨pb,0,none⟩=some (.int .i64 y1)∧w'.cell? ⟨pb,1,none⟩=some (.int .i64 y2)) (go_keep)
   (first|(go_at_call 140;((with_reducible refine (lM mo c m (y1,y2) (x1,x2) _ KK.out.drew.mt HN.out.1 (by have:=HN.out.2.1;omega)).mono ?_);rintro e w2 ⟨rfl,hm2,hb2⟩;rw [HV.out];have F2:=hdz ((HF.out.stay ((Below.refl _ _).drew)).turn hb2 KK.out.drew.mt);have K2:=hdz (KK.out.drew.turn hm2 hb2 ax);have g0:=F2.out.h.c0;have g1:=F2.out.o.c0;have c0:=(aT HC.out.1 K2.out.kp).c0;have c1:=(aT HC.out.1 K2.out.kp).c1;have d0:=(aT HC.out.2 K2.out.kp).c0;have d1:=(aT HC.out.2 K2.out.kp).c1;clear hm2 hb2)))
  clear f0 f1 a0 a1 b0 b1 c0 c1 d0 d1;clear g0 g1;have F3:=F2;have K3:=K2;generalize w2=w3 at *;have e0:=F3.out.w.c0;have e1:=F3.out.l.c0;have w0':=(aT HC.out.1 K3.out.kp).c0;have w1':=(aT HC.out.1 K3.out.kp).c1;have w2':=(aT HC.out.1 K3.out.kp).c2;have w3':=(aT HC.out.1 K3.out.kp).c3;have w4':=(aT HC.out.1 K3.out.kp).c4;have l4':=(aT HC.out.2 K3.out.kp).c4;obtain ⟨st,hst⟩:=aU (sa+sb);have HST:=hdz hst;have ew:IntKind.i64.wrap ((sa:Int)+(sb:Int))=(st:Int):=by have:=HN.out;rw [IntKind.wrap_i64];omega
  clear hst;have n1:¬pa=a+1+1:=by have h7:=HA.out;have h8:=HN.out;have:=F3.out.gw;have:=F3.out.gl;omega
  have n1b:¬a+1+1=pa:=fun e=>n1 e.symm;have n2:¬pb=a+1+1:=by have h7:=HA.out;have h8:=HN.out;have:=F3.out.gw;have:=F3.out.gl;omega
  have n2b:¬a+1+1=pb:=fun e=>n2 e.symm;have n3:¬bw=a+1+1:=by have h7:=HA.out;have h8:=HN.out;have:=F3.out.gw;have:=F3.out.gl;omega
  have n3b:¬a+1+1=bw:=fun e=>n3 e.symm;have n4:¬bl=a+1+1:=by have h7:=HA.out;have h8:=HN.out;have:=F3.out.gw;have:=F3.out.gl;omega
  have n4b:¬a+1+1=bl:=fun e=>n4 e.symm;go_wp2_with fail
  go_region_held3 (fun w'=>w'.cell? ⟨bw,0,none⟩=some (.pointer (some ⟨pa,0,none⟩))∧w'.cell? ⟨bl,0,none⟩=some (.pointer (some ⟨pb,0,none⟩))∧w'.cell? ⟨pa,0,none⟩=some (.int .i64 x1)∧w'.cell? ⟨pa,1,none⟩=some (.int .i64 x2)∧w'.cell? ⟨pa,2,none⟩=some (.pointer kp)∧w'.cell? ⟨pa,3,none⟩=some (.int .i64 (na:Int))∧w'.cell? ⟨pa,4,none⟩=some (.int .i64 (sa:Int))∧w'.cell? ⟨pb,4,none⟩=some (.int .i64 (sb:Int))) (go_keep)
   (first|(go_at_call 118;((with_reducible refine (gX mo (c+1) m x1 x2 (.cons (y1,y2) ls ks) q4 n4 st _ K4.out.mt (by have:=HN.out;omega) (by have:=HN.out;omega) T4.out (by have:=HN.out;have:=HN4.out;simp only [Kd.len];omega) (by have:=HN.out;have:=HST.out;simp only [Kd.size];omega)).mono ?_);rintro e w5 ⟨p5,rfl,Ip,Im,hb5⟩;have F5:=hdz (F4.out.turn hb5 K4.out.mt);have K5:=hdz (K4.out.turn Im hb5 ax);have T5:=hdz Ip;have q0:=F5.out.w.c0;have q1:=F5.out.l.c0;have qw0:=(aT HC.out.1 K5.out.kp).c0;have qw1:=(aT HC.out.1 K5.out.kp).c1;have qw2:=(aT HC.out.1 K5.out.kp).c2;have qw3:=(aT HC.out.1 K5.out.kp).c3;have qw4:=(aT HC.out.1 K5.out.kp).c4;have ql4:=(aT HC.out.2 K5.out.kp).c4;have r5:=F5.out.r.c0;have z5:=F5.out.r.z0;clear Ip Im hb5))|(go_at_call 146;((with_reducible refine (Ca (ks:=ks) (ls:=ls) (n:=na) (x:=(y1,y2)) (HK.out.1.kp K3.out.drew.kp) (HB0.out.kp K3.out.drew.kp) (by have:=HN.out;omega) (by have:=HN.out;omega)).mono ?_);rintro e w4 ⟨q4,n4,rfl,hq4,hn4,hb4⟩;have HN4:=hdz hn4;have F4:=hdz ((F3.out.stay ((Below.refl _ _).drew)).stay hb4);have K4:=hdz (K3.out.drew.stay hb4);have T4:=hdz hq4;have p0:=F4.out.w.c0;have p1:=F4.out.l.c0;have pw0:=(aT HC.out.1 K4.out.kp).c0;have pw1:=(aT HC.out.1 K4.out.kp).c1;have pw2:=(aT HC.out.1 K4.out.kp).c2;have pw3:=(aT HC.out.1 K4.out.kp).c3;have pw4:=(aT HC.out.1 K4.out.kp).c4;have pl4:=(aT HC.out.2 K4.out.kp).c4;clear hq4 hn4 hb4)))
  go_wp2_with fail
  have hk:=(K5.out.put F5.out.r aj (by decide) (by rw [←HA.out];omega) 0 (.pointer p5));exact bodyPost_ret (v:=hp p5) (by simp [results,Tryz.results119,go_sem,r5]) rfl ⟨_,rfl,T5.out.kp (bO.set F5.out.r aj 0 _),hk.mt,hk.bt⟩
theorem eT (mo:Option Nat)(a b:Lh)(c m:Int)(p q:Option Addr)(w:World)(hs:a.size+b.size<268435456)(hm:aW w mo c m)(h0:0≤c)(h1:c<1152921504606846976)(h2:0≤m)(h3:m<1152921504606846976)(ha:aA w a p)(hb:aA w b q) :
  Calls Tryz.prog 119 #[hp p,aF mo,hp q] w (bU mo (c+aQ a b) (m+aQ a b) (bI a b) w):=by
 cases a with
 | nil =>
  obtain rfl:=ha;exact (ja mo q w).mono fun _ _ ⟨he,hw⟩=>⟨q,he,by rw [jA];exact hb.stay hw,by rw [rF];simpa using hm.stay hw,Bt.aV hw⟩
 | node x ks =>
  obtain ⟨x1,x2⟩:=x;have ha':=ha;obtain ⟨pa,kp,rfl, -⟩:=ha'
  cases b with
  | nil =>
   obtain rfl:=hb;exact (ig mo pa w).mono fun _ _ ⟨he,hw⟩=>⟨_,he,ha.stay hw,by simpa [aQ] using hm.stay hw,Bt.aV hw⟩
  | node y ls =>
   obtain ⟨y1,y2⟩:=y;have hb':=hb;obtain ⟨pb,lp,rfl, -⟩:=hb';rw [yu]
   cases hv:dH (y1,y2) (x1,x2) with
   | true=>exact vC mo x1 x2 y1 y2 ks ls hs hv c m pa pb w hm h0 h1 h2 h3 ha hb
   | false=>exact sO mo x1 x2 y1 y2 ks ls hs hv c m pa pb w hm h0 h1 h2 h3 ha hb
end Go.Proofs.YtmeodbjlmjpnbaaGreat.Pd
namespace Go.Proofs.YtmeodbjlmjpnbaaGreat.Pd
open Go.Sort Go.RowKit
theorem Dx (mo:Option Nat)(c m:Int)(x1 x2:Int)(w:World)(hm:aW w mo c m)(h2:0≤m)(h3:m<4611686018427387904) :
  Calls Tryz.prog 118 #[aF mo,.agg #[.int .i64 x1,.int .i64 x2,.pointer none,.int .i64 0,.int .i64 1]] w (bU mo c (m+1) (.one (x1,x2)) w) :=
 gX mo c m x1 x2 .nil none 0 1 w hm h2 h3 rfl rfl rfl
structure Fi (W:World)(a:Nat)(p:Option Addr)(x:Int×Int):Prop where
 h:W.heap[a]?=some (.cells #[.pointer p] 113 (0,0))
 e:W.heap[a+1]?=some (.cells #[.int .i64 x.1,.int .i64 x.2] 29 (0,0))
 r:W.heap[a+2]?=some (.cells #[.pointer none] 113 (0,0))
section
variable {W W':World}{a:Nat}{p:Option Addr}{x:Int×Int}{mo:Option Nat}{c m:Int}
theorem Fi.new (w:World)(p:Option Addr)(x:Int×Int):Fi (((w.alloc (.cells #[.pointer p] 113)).alloc (.cells #[.int .i64 x.1,.int .i64 x.2] 29)).alloc (.cells #[.pointer none] 113)) w.heap.size p x:=by
 refine ⟨?_,?_,?_⟩
 ·rw [alloc_old _ (by simp only [World.size_alloc];omega),alloc_old _ (by simp only [World.size_alloc];omega)];exact aJ rfl
 ·rw [alloc_old _ (by simp only [World.size_alloc];omega)];exact aJ (by simp)
 ·exact aJ (by simp)
theorem Fi.turn (h:Fi W a p x)(hb:Bt mo W W')(hm:aW W mo c m):Fi W' a p x :=
 ⟨hb.row hm h.h (by decide),hb.row hm h.e (by decide),hb.row hm h.r (by decide)⟩
theorem Fi.stay (h:Fi W a p x)(hb:Below W.heap.size W W'):Fi W' a p x :=
 ⟨(hb.block _ (lt_of_heap h.h)).trans h.h,(hb.block _ (lt_of_heap h.e)).trans h.e,(hb.block _ (lt_of_heap h.r)).trans h.r⟩
theorem Fi.h0 (h:Fi W a p x):W.cell? ⟨a,0,none⟩=some (.pointer p):=by simp [World.cell?,h.h]
theorem Fi.e0 (h:Fi W a p x):W.cell? ⟨a+1,0,none⟩=some (.int .i64 x.1):=by simp [World.cell?,h.e]
theorem Fi.e1 (h:Fi W a p x):W.cell? ⟨a+1,1,none⟩=some (.int .i64 x.2):=by simp [World.cell?,h.e]
theorem Fi.r0 (h:Fi W a p x):W.cell? ⟨a+2,0,none⟩=some (.pointer none):=by simp [World.cell?,h.r]
theorem Fi.zr (h:Fi W a p x):W.frozen? ⟨a+2,0,none⟩=false:=by simp [World.frozen?,h.r]
end
theorem di (mo:Option Nat)(c m:Int)(h:Lh)(x:Int×Int)(p:Option Addr)(w:World)(hs:h.size<134217728)(hm:aW w mo c m)(h0:0≤c)(h1:c<576460752303423488)(h2:0≤m)(h3:m<576460752303423487)
  (hh:aA w h p):Calls Tryz.prog 92 #[hp p,aF mo,el x] w (bU mo (c+aQ (.one x) h) (m+1+aQ (.one x) h) (h.insert x) w):=by
 obtain ⟨x1,x2⟩:=x;have F1:Fi (((w.alloc (.cells #[.pointer p] 113)).alloc (.cells #[.int .i64 x1,.int .i64 x2] 29)).alloc (.cells #[.pointer none] 113)) w.heap.size p (x1,x2):=Fi.new w p (x1,x2)
 have hb1:Below w.heap.size w (((w.alloc (.cells #[.pointer p] 113)).alloc (.cells #[.int .i64 x1,.int .i64 x2] 29)).alloc (.cells #[.pointer none] 113)) :=
  ((bG _).alloc (by simp) _).alloc (by simp only [World.size_alloc];omega) _
 have K1:dL au mo w c m (((w.alloc (.cells #[.pointer p] 113)).alloc (.cells #[.int .i64 x1,.int .i64 x2] 29)).alloc (.cells #[.pointer none] 113)):=(dL.refl hm).stay hb1;have HH:=hdz hh;have HN:=hdz (af hs (af h0 (af h1 (af h2 h3))));have HF:=hdz F1;have KK:=hdz K1;clear hh hs h0 h1 h2 h3 F1 K1 hb1 hm;go_enter Tryz.func92,Tryz.ntmps92
 go_wp2_with fail
 generalize ((w.alloc (.cells #[.pointer p] 113)).alloc (.cells #[.int .i64 x1,.int .i64 x2] 29)).alloc (.cells #[.pointer none] 113)=w1 at *;obtain ⟨a,ha⟩:=aU (w.heap.size);rw [←ha]at HF ⊢;have HA:=hdz ha;clear ha;have F4:=HF;have K4:=KK;have f0:=F4.out.h0;have f1:=F4.out.e0;have f2:=F4.out.e1;have n1:¬a=a+1+1:=by omega
 have n2:¬a+1+1=a:=by omega
 go_region_held3 (fun w'=>w'.cell? ⟨a,0,none⟩=some (.pointer p)∧w'.cell? ⟨a+1,0,none⟩=some (.int .i64 x1)∧w'.cell? ⟨a+1,1,none⟩=some (.int .i64 x2)) (go_keep)
  (first|(go_at_call 119;((with_reducible refine (eT mo (.one (x1,x2)) h c (m+1) p5 p _ (by rw [iL];have:=HN.out;omega) K5.out.mt HN.out.2.1 (by have:=HN.out;omega) (by have:=HN.out;omega) (by have:=HN.out;omega) T5.out (HH.out.kp K5.out.kp)).mono ?_);rintro e w6 ⟨p6,rfl,Io,Iy,hb6⟩;have F6:=hdz (F5.out.turn hb6 K5.out.mt);have K6:=hdz (K5.out.turn Iy hb6 ax);have T6:=hdz Io;have k0:=F6.out.h0;have k1:=F6.out.e0;have k2:=F6.out.e1;have r6:=F6.out.r0;have z6:=F6.out.zr;clear Io Iy hb6))|(go_at_call 118;((with_reducible refine (Dx mo c m x1 x2 _ K4.out.drew.mt HN.out.2.2.2.1 (by have:=HN.out;omega)).mono ?_);rintro e w5 ⟨p5,rfl,Ip,Im,hb5⟩;have F5:=hdz ((F4.out.stay ((Below.refl _ _).drew)).turn hb5 K4.out.drew.mt);have K5:=hdz (K4.out.drew.turn Im hb5 ax);have T5:=hdz Ip;have g0:=F5.out.h0;have g1:=F5.out.e0;have g2:=F5.out.e1;clear Ip Im hb5)))
 go_wp2_with fail
 have hk:=(K6.out.put F6.out.r aj (by decide) (by rw [←HA.out];omega) 0 (.pointer p6));exact bodyPost_ret (v:=hp p6) (by simp [results,Tryz.results92,go_sem,r6]) rfl ⟨_,rfl,T6.out.kp (bO.set F6.out.r aj 0 _),hk.mt,hk.bt⟩
end Go.Proofs.YtmeodbjlmjpnbaaGreat.Pd
