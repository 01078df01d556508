/- Plain facts, of no program: the order of pairs of numbers (by the first, of one first by the second): that it is total and handed on. No conditions. -/
import Derived.Deep.RegionHeld
import Derived.Deep.RegionHeld3
import Derived.KernelRfl
import Derived.Lib.Hide
import Derived.WalkKit
import Derived.Sort.Grow
import Derived.Below
import Derived.Lib.QuietBelow
import Derived.WideKeyArgs
import Derived.ChangeSame
import Derived.ChangeCalls
import Derived.OpenShut
import Derived.ProofKit
import Derived.Sort.Statements
import Derived.Laws.CopyRow
import Derived.Laws.Rows
import Derived.Laws.MakeOwn
import Derived.Laws.OwnMore
import Derived.RangeFuncOwn
import Derived.Maps.AppendAt
import Derived.Laws.AppendOwnNone
import Derived.RangeFuncNested
import Derived.RangeFuncBound
import Derived.RangeFuncCalls
import Derived.RangeFuncLeaves
import Derived.RangeFuncBox
import Derived.Test.YtmeodbjlmjpnbaaGreatRows
import Derived.Carry
import Derived.Lib.SmallJoins
import Derived.Deep.SlicePairs
import Derived.Deep.Slices
import Derived.Deep.Strs
import Derived.Test.YtmeodbjlmjpnbaaGreatProg
import Derived.WalkLawsBesides
import Derived.Outline
import Derived.Deep.QuietTactic
import Derived.BigQuiet
import Derived.Laws.LoneSync
import Derived.Lib.ItoaLen
import Derived.Lib.ItoaMem
import Derived.Deep.LoopGhost
import Derived.Handy
set_option maxRecDepth 100000
set_option maxHeartbeats 1000000
namespace Go.Proofs.YtmeodbjlmjpnbaaGreat
theorem hdz {p:Prop}(h:p):RowKit.Hid p:=h
theorem af {p q:Prop}(h:p)(k:q):p∧q:=⟨h,k⟩
theorem aU {α : Sort _}(x : α):∃a,a=x:=⟨x,rfl⟩
theorem bG {w:World}(o:Obj):RowKit.Below w.heap.size w (w.alloc o):=(RowKit.Below.refl _ _).alloc (Nat.le_refl _) o
theorem aZ:(∀(a:Act) (d:Tmp) (v:Value),a.put (some d) v={ a with tmps:=a.tmps.setIfInBounds d v })∧(∀(a:Act) (v:Value),a.put none v=a)∧(∀(l:List Value) (i:Nat) (v:Value),l.toArray.setIfInBounds i v=(l.set i v).toArray)∧(∀(x v:Value) (l:List Value),(x::l).set 0 v=v::l)∧(∀(x v:Value) (l:List Value) (n:Nat),(x::l).set (n+1) v=x::l.set n v)∧(∀(l:List Bool) (i:Nat) (v:Bool),l.toArray.setIfInBounds i v=(l.set i v).toArray)∧(∀(x v:Bool) (l:List Bool),(x::l).set 0 v=v::l)∧(∀(x v:Bool) (l:List Bool) (n:Nat),(x::l).set (n+1) v=x::l.set n v) :=
 ⟨fun _ _ _=>rfl,fun _ _=>rfl,fun _ _ _=>by simp,fun _ _ _=>rfl,fun _ _ _ _=>rfl,fun _ _ _=>by simp,fun _ _ _=>rfl,fun _ _ _ _=>rfl⟩
section
variable {P:Program}{ops:Array Oper}{Q:Exit→Act→World→Prop}{md:Region.Mode}{S:World→Prop}{fuel:Nat}{listed:Array Bool}{a:Act}{w:World}
theorem tk (i:Nat){oi:Oper}{v:Value}(hS:S w)(h:wpAnyH P md ops (NoPanic Q) S fuel (listed.setIfInBounds i true) (a.put oi.dst v) w)(hi:ops[i]?=some oi:=by exact rfl)(hs:Region.noSelect ops=true:=by as_aux_lemma=>kernel_rfl)(hf:Region.free md ops listed i=true:=by as_aux_lemma=>kernel_rfl)(hr:(Region.ready md ops listed).contains i=true:=by as_aux_lemma=>kernel_rfl)
  (hw:Region.wanted oi (yielded ops a.tmps)=true:=by as_aux_lemma=>kernel_rfl) (hy:∀w,S w→(execOp a.eval oi).run P w=.ok (.value v) w:=by (intro w hSw;(try dsimp only at hSw);go_simp;try with_reducible rfl)):wpAnyH P md ops (NoPanic Q) S (fuel+1) listed a w :=
 wpAnyH_take hi hs hf hr (fun _ _ _ h=>h) (Or.inl ⟨hw,hy⟩) hS h
theorem eD (i:Nat){o:Oper}(h:∀K':Act→World→Prop,Shut (∀a w,S w→(S w→wpAnyH P md ops Q S fuel (listed.setIfInBounds i true) a w)→K' a w)→if Region.wanted o (yielded ops a.tmps)=true then Oper.wp P o a w K' Q else K' (a.put o.dst undef) w)
  (hr:Region.ready md ops listed=[i]:=by as_aux_lemma=>kernel_rfl) (ho:ops[i]?=some o:=by exact rfl):wpAnyH P md ops Q S (fuel+1) listed a w :=
 wpAnyH_ready hr (by simp) (AllReadyH.cons ho h AllReadyH.nil)
theorem uw (i j:Nat){o o':Oper}(h:∀K':Act→World→Prop,Shut (∀a w,S w→(S w→wpAnyH P md ops Q S fuel (listed.setIfInBounds i true) a w)→K' a w)→if Region.wanted o (yielded ops a.tmps)=true then Oper.wp P o a w K' Q else K' (a.put o.dst undef) w)
  (h':∀K':Act→World→Prop,Shut (∀a w,S w→(S w→wpAnyH P md ops Q S fuel (listed.setIfInBounds j true) a w)→K' a w)→if Region.wanted o' (yielded ops a.tmps)=true then Oper.wp P o' a w K' Q else K' (a.put o'.dst undef) w)
  (hr:Region.ready md ops listed=[i,j]:=by as_aux_lemma=>kernel_rfl) (ho:ops[i]?=some o:=by exact rfl) (ho':ops[j]?=some o':=by exact rfl):wpAnyH P md ops Q S (fuel+1) listed a w :=
 wpAnyH_ready hr (by simp) (AllReadyH.cons ho h (AllReadyH.cons ho' h' AllReadyH.nil))
theorem dn (h:Q .normal a w)(hr:Region.ready md ops listed=[]:=by as_aux_lemma=>kernel_rfl):wpAnyH P md ops (NoPanic Q) S fuel listed a w:=wpAnyH_done hr (NoPanic.normal h) _
end
end Go.Proofs.YtmeodbjlmjpnbaaGreat
namespace Go.Proofs.YtmeodbjlmjpnbaaGreat
open Go.Sort Go.RowKit
def BB (p q r s:Int):Bool:=if p=r then decide (q<s) else decide (p<r)
theorem Gd (p q r s:Int):BB p q r s=true ↔ (p<r∨(p=r∧q<s)):=by
 unfold BB;split<;>simp<;>omega
theorem Fw (p q r s:Int):BB p q r s=false ↔ (r<p∨(p=r∧s≤q)):=by
 unfold BB;split<;>simp<;>omega
end Go.Proofs.YtmeodbjlmjpnbaaGreat
namespace Go.Proofs.YtmeodbjlmjpnbaaGreat
open Go.Sort Go.RowKit
theorem below_grow (w:World)(k:Nat)(os:Array Obj):Below w.heap.size w (grow (w.drewN k) os) :=
 ⟨rfl,rfl,rfl,by simp [grow,World.drewN],fun i hi=>by simp [grow,World.drewN,Array.getElem?_append,hi]⟩
theorem xQ {w w1:World}{x y:Value}{t:TypeId}(hb:Below (w.alloc (.cells #[x,y] t)).heap.size (w.alloc (.cells #[x,y] t)) w1) :
  w1.cell? ⟨w.heap.size,0,none⟩=some x∧w1.cell? ⟨w.heap.size,1,none⟩=some y∧w1.frozen? ⟨w.heap.size,0,none⟩=false∧w1.frozen? ⟨w.heap.size,1,none⟩=false∧w.heap.size<w1.heap.size∧Below w.heap.size w w1:=by
 have hs:=hb.size;have e:(w.alloc (.cells #[x,y] t)).heap[w.heap.size]?=some (.cells #[x,y] t (0,0)):=heap_alloc_new w _;have e1:w1.heap[w.heap.size]?=some (.cells #[x,y] t (0,0)):=(hb.block w.heap.size (by simp)).trans e;refine ⟨?_,?_,?_,?_,by simp at hs;omega,((Below.refl w.heap.size w).alloc (Nat.le_refl _) _).trans (hb.mono (by simp))⟩
 ·simp [World.cell?,e1]
 ·simp [World.cell?,e1]
 ·simp [World.frozen?,e1]
 ·simp [World.frozen?,e1]
def bn (w:World)(b:Nat)(x y:Int):Prop :=
 w.cell? ⟨b,0,none⟩=some (.int .i64 x)∧w.cell? ⟨b,1,none⟩=some (.int .i64 y)∧w.frozen? ⟨b,0,none⟩=false∧w.frozen? ⟨b,1,none⟩=false∧b<w.heap.size
theorem bn.below {w w':World}{B b:Nat}{x y:Int}(h:bn w b x y)(hb:Below B w w')(hB:b<B):bn w' b x y:=by
 obtain ⟨a,c,d,e,f⟩:=h;exact ⟨(hb.cell (p:=⟨b,0,none⟩) hB).trans a,(hb.cell (p:=⟨b,1,none⟩) hB).trans c,(hb.frozen (p:=⟨b,0,none⟩) hB).trans d,(hb.frozen (p:=⟨b,1,none⟩) hB).trans e,Nat.lt_of_lt_of_le f hb.size⟩
theorem bn.new (w:World)(x y:Int)(t:TypeId):bn (w.alloc (.cells #[.int .i64 x,.int .i64 y] t)) w.heap.size x y:=by
 have h:=xQ (w:=w) (x := .int .i64 x) (y := .int .i64 y) (t:=t) (Below.refl _ _);exact ⟨h.1,h.2.1,h.2.2.1,h.2.2.2.1,h.2.2.2.2.1⟩
theorem bn.alloc {w:World}{b:Nat}{x y:Int}(h:bn w b x y)(o:Obj):bn (w.alloc o) b x y :=
 h.below (B:=w.heap.size) (bG o) h.2.2.2.2
theorem bn.set {w:World}{b:Nat}{x y:Int}(h:bn w b x y)(x' y':Int):bn ((w.setCell ⟨b,0,none⟩ (.int .i64 x')).setCell ⟨b,1,none⟩ (.int .i64 y')) b x' y':=by
 obtain ⟨a,c,d,e,f⟩:=h;refine ⟨?_,?_,?_,?_,by simpa [World.setCell] using f⟩
 ·rw [World.cell?_setCell_other _ _ _ _ (by simp)];exact World.cell?_setCell_same _ _ _ a
 ·exact World.cell?_setCell_same _ _ _ ((World.cell?_setCell_other _ _ _ _ (by simp)).trans c)
 ·rw [World.frozen?_setCell,World.frozen?_setCell];exact d
 ·rw [World.frozen?_setCell,World.frozen?_setCell];exact e
theorem bn.other {w:World}{b:Nat}{x y:Int}(h:bn w b x y){p:Addr}(hp:p.block≠b)(u:Value):bn (w.setCell p u) b x y:=by
 obtain ⟨a,c,d,e,f⟩:=h;refine ⟨?_,?_,?_,?_,by simpa [World.setCell] using f⟩
 ·rw [World.cell?_setCell_other _ _ _ _ (fun e=>hp (by rw [e]))];exact a
 ·rw [World.cell?_setCell_other _ _ _ _ (fun e=>hp (by rw [e]))];exact c
 ·rw [World.frozen?_setCell];exact d
 ·rw [World.frozen?_setCell];exact e
theorem duo {w w1:World}{p q r s:Int}{t:TypeId}(hb:Below ((w.alloc (.cells #[.int .i64 p,.int .i64 q] t)).alloc (.cells #[.int .i64 r,.int .i64 s] t)).heap.size ((w.alloc (.cells #[.int .i64 p,.int .i64 q] t)).alloc (.cells #[.int .i64 r,.int .i64 s] t)) w1) :
  bn w1 w.heap.size p q∧bn w1 (w.heap.size+1) r s∧Below w.heap.size w w1:=by
 have e:(w.alloc (.cells #[.int .i64 p,.int .i64 q] t)).heap.size=w.heap.size+1:=by simp
 have pb:=(bn.new (w.alloc (.cells #[.int .i64 p,.int .i64 q] t)) r s t).below hb (by simp);rw [e]at pb;exact ⟨((bn.new w p q t).alloc _).below hb (by simp;omega),pb,(((Below.refl w.heap.size w).alloc (Nat.le_refl _) _).alloc (by simp) _).trans (hb.mono (by simp;omega))⟩
end Go.Proofs.YtmeodbjlmjpnbaaGreat
namespace Go.Proofs.YtmeodbjlmjpnbaaGreat
open Go.Sort Go.RowKit Go.ChangeShapes Go.WideShapes
theorem xD (w:World):w=grow (redrawn w w.drawn) #[]:=by rw [grow_empty];rfl
theorem kg {P:Program}{id d:Nat}{os:Array Obj}{Q:Exit→Act→World→Prop}{a:Act}{w:World}{l:List Oper}(hm:P.follows .mixedOrders=true)(hB:Region.lexB .any l.toArray=true)
  (h:wpQuiet P l.toArray (fun w' => ∃p:Regrown,w'=grow (redrawn w p.d) p.os) (fun a' => ∀w',(∃p:Regrown,w'=grow (redrawn w p.d) p.os)→Q .normal a' w') l a):(Code.region id l.toArray true).wp P Q a (grow (redrawn w d) os) :=
 wp_region_quiet (C:=fun w' => ∃p:Regrown,w'=grow (redrawn w p.d) p.os) hm hB ⟨⟨d+1,os⟩,rfl⟩ (by simpa using h)
theorem zV {P:Program}{f:FuncId}{args:Array Value}{w:World}{v:Value}
  (h:∀W,Below w.heap.size w W→Calls P f args W fun e w'=>e=.returned v∧Below W.heap.size W w') (d:Nat) (os:Array Obj) :
  Calls P f args (grow (redrawn w d) os) fun e w''=>e=.returned v ∧ ∃p:Regrown,w''=grow (redrawn w p.d) p.os:=Calls.regrown_of (h _ (below_regrown w d os))
section
variable {H:Type}{enc:TypeId×Value→H}{P:Program}
theorem rZ (hl:laidOutB P=true){W W':World}{sp:Nat→Bool}(hb:Below W.heap.size W W') :
  ∀{ts:List TypeId} {vs:List Value} {ds:List (DataW H)} {ps:List MemPlace},(ts.all fun t=>P.readableRec t && decide (t<P.types.size))=true →
   DataW.TrodAll enc P W 0 (fun _=>true) true ts vs ds ps→(∀x∈ps,x.block<W.heap.size)→(∀x∈ps,sp x.block=true)→DataW.TrodAll enc P W' 0 sp true ts vs ds ps
 | [],vs,ds,ps,_,h,_,_=>by
  obtain ⟨rfl,rfl,rfl⟩:=trodAll_nil h;exact trodAll_mk0
 | t::ts,vs,ds,ps,ht,h,hlt,hsp=>by
  obtain ⟨v0,vs0,d0,ds0,p0,q0,rfl,rfl,rfl,h0,r0⟩:=trodAll_cons h;simp only [List.all_cons,Bool.and_eq_true,decide_eq_true_eq]at ht;refine trodAll_cons_mk (WideElems.Trod_stays hl ht.1.1 ht.1.2 h0 (fun x hx=>hb.same (hlt x (by simp [hx]))) (fun x hx=>hsp x (by simp [hx]))) ?_;exact rZ hl hb (by simpa using ht.2) r0 (fun x hx=>hlt x (by simp [hx])) (fun x hx=>hsp x (by simp [hx]))
theorem law_done {f:Func}{s:ChangeSpec}{W W':World}{args:Array Value}{ds gs:List (DataW H)}{before:List MemPlace}{tb:TypeId}
  (hl:laidOutB P=true) (hpar:(f.params.toList.all fun t=>P.readableRec t && decide (t<P.types.size))=true) (hres:f.resultTypes=#[tb]) (ub:P.underlying tb=some .bool) (hv:s.vars=[])
  (hfn:ds.length=f.params.size→s.fn H ds={ results:=[.lit (.bool true)],args:=ds })
  (hW:DataW.Whole enc P f.params.toList s.vars false W args.toList ds gs before) (hb:Below W.heap.size W W') :
  s.post enc P f false true false false W args (.bool true) W':=by
 have hW0:=hW;have hlt:∀p∈before,p.block<W.heap.size:=fun p hp=>hW.lt p hp;obtain ⟨p,q,hA,hV,rfl,hz,hn⟩:=hW;rw [hv]at hV;obtain ⟨rfl,rfl⟩:=trodVars_none hV;rw [List.append_nil]at *
 have hlen:ds.length=f.params.size:=by
  have:=(trodAll_length hA).2;simpa using this
 have hfn':=hfn hlen;have hold:∀x∈p,(fun b=>decide (b<W.heap.size)) x.block=true:=fun x hx=>by simpa using hlt x hx
 refine ⟨ds,[],p,[],p,[],by simpa using hW0,?_,?_,?_,?_,fun h=>by cases h⟩
 ·rw [List.append_nil,hfn',hres];exact trodAll_cons_mk (shut_bool ub _) trodAll_mk0
 ·rw [List.append_nil,hfn'];exact rZ hl hb hpar hA hlt hold
 ·rw [hv,List.append_nil,hfn'];exact rfl
 ·exact World.keptBut_mono (fun x hx=>⟨hx,by simp [hx]⟩) (hb.frame (· ∈ p))
end
end Go.Proofs.YtmeodbjlmjpnbaaGreat
namespace Go.Proofs.YtmeodbjlmjpnbaaGreat
open Go.Sort Go.RowKit
def dH (x y:Int×Int):Bool:=BB x.1 x.2 y.1 y.2
theorem ku (x y:Int×Int):dH x y=true ↔ (x.1<y.1∨(x.1=y.1∧x.2<y.2)):=Gd _ _ _ _
theorem iA (x y:Int×Int):dH x y=false ↔ (y.1<x.1∨(x.1=y.1∧y.2≤x.2)):=Fw _ _ _ _
theorem qA:SWO dH where
 irrefl x:=by rw [iA];omega
 trans x y z h1 h2:=by rw [ku]at *;omega
 ntrans x y z h1 h2:=by rw [iA]at *;omega
theorem Cz (x y:Int×Int)(h1:dH x y=false)(h2:dH y x=false):x=y:=by
 rw [iA]at h1 h2;apply Prod.ext<;>omega
def dw (xs:List (Int×Int)):List (Int×Int):=xs.mergeSort fun x y => !dH y x
theorem xP (xs ys:List (Int×Int))(hp:ys.Perm xs)(hs:ys.Pairwise fun x y=>(!dH y x)=true):dw xs=ys:=by
 unfold dw
 have ht:∀a b c:Int×Int,(!dH b a)=true→(!dH c b)=true→(!dH c a)=true:=by
  intro a b c h1 h2;simp only [Bool.not_eq_true']at *;exact qA.ntrans c b a h2 h1
 have hT:∀a b:Int×Int,((!dH b a) || (!dH a b))=true:=by
  intro a b
  cases h:dH b a with
  | false=>simp
  | true =>
   have:dH a b=false:=by rw [iA];rw [ku]at h;omega
   simp [this]
 refine List.Perm.eq_of_pairwise (le:=fun x y=>(!dH y x)=true) ?_ (List.pairwise_mergeSort ht hT xs) hs ((List.mergeSort_perm _ _).trans hp.symm);intro a b _ _ h1 h2;simp only [Bool.not_eq_true']at h1 h2;exact Cz a b h2 h1
end Go.Proofs.YtmeodbjlmjpnbaaGreat
namespace Go.Proofs.YtmeodbjlmjpnbaaGreat
open Go.Sort Go.RowKit
def zB (l:List (Int×Int))(x:Int×Int):Nat:=(l.takeWhile fun e=>dH e x).length
def AB (l:List (Int×Int))(x:Int×Int):List (Int×Int):=l.take (zB l x)++x::l.drop (zB l x)
theorem yA (l:List (Int×Int))(x:Int×Int):(AB l x).Perm (x::l):=by
 unfold AB;refine List.perm_middle.trans ?_;rw [List.take_append_drop]
def ordered (l:List (Int×Int)):Prop:=l.Pairwise fun x y=>(!dH y x)=true
theorem zL (l:List (Int×Int))(x:Int×Int)(h:ordered l):ordered (AB l x):=by
 unfold ordered AB zB at *;induction l with
 | nil=>simp
 | cons y r ih =>
  rw [List.pairwise_cons]at h;rw [List.takeWhile_cons]
  cases hy:dH y x with
  | true =>
   simp only [if_true,List.length_cons,List.take_succ_cons,List.drop_succ_cons,List.cons_append];rw [List.pairwise_cons];refine ⟨fun e he=>?_,ih h.2⟩;have hm:e∈x::r:=(yA r x).subset he;rcases List.mem_cons.1 hm with rfl|hm
   ·have:dH e y=false:=by rw [iA];rw [ku]at hy;omega
    simp [this]
   ·exact h.1 e hm
  | false =>
   simp only [Bool.false_eq_true,if_false,List.length_nil,List.take_zero,List.drop_zero,List.nil_append];rw [List.pairwise_cons];refine ⟨fun e he=>?_,List.pairwise_cons.2 h⟩;rcases List.mem_cons.1 he with rfl|he
   ·simp [hy]
   ·have h1:=h.1 e he;simp only [Bool.not_eq_true']at h1 ⊢;rw [iA]at *;omega
theorem DZ (l acc:List (Int×Int))(h:ordered acc):ordered (l.foldl AB acc)∧(l.foldl AB acc).Perm (l++acc):=by
 induction l generalizing acc with
 | nil=>exact ⟨h,List.Perm.refl _⟩
 | cons x r ih =>
  obtain ⟨h1,h2⟩:=ih (AB acc x) (zL acc x h);refine ⟨h1,h2.trans ?_⟩;refine ((yA acc x).append_left r).trans ?_;simp
end Go.Proofs.YtmeodbjlmjpnbaaGreat
namespace Go.Proofs.YtmeodbjlmjpnbaaGreat
open Go.Sort Go.RowKit
def FK (x:Int×Int):List Value:=[.int .i64 x.1,.int .i64 x.2]
def cellsE (xs:List (Int×Int)):List Value:=xs.flatMap FK
theorem oJ (xs:List (Int×Int)):(cellsE xs).length=xs.length*2:=by
 induction xs with
 | nil=>rfl
 | cons x r ih=>simp only [cellsE,List.flatMap_cons,List.length_append,List.length_cons]at *;rw [ih];simp [FK];omega
theorem r9 (xs ys:List (Int×Int)):cellsE (xs++ys)=cellsE xs++cellsE ys:=by simp [cellsE]
theorem vK:∀(xs:List (Int×Int)) (i:Nat) (h:i<xs.length),(cellsE xs)[i*2]?=some (.int .i64 xs[i].1)∧(cellsE xs)[i*2+1]?=some (.int .i64 xs[i].2)
 | [],i,h=>by simp at h
 | x::r,0,_=>by simp [cellsE,FK]
 | x::r,i+1,h=>by
  have ih:=vK r i (by simpa using h);have e:cellsE (x::r)=.int .i64 x.1 :: .int .i64 x.2::cellsE r:=rfl;rw [e,show (i+1)*2=i*2+1+1 by omega,show i*2+1+1+1=(i*2+1)+1+1 by omega];simpa using ih
theorem xR (xs:List (Int×Int)):∀v∈cellsE xs,v.oneCell'=true:=by
 intro v hv;simp only [cellsE,List.mem_flatMap,FK]at hv;obtain ⟨x,_,hx⟩:=hv;simp at hx;rcases hx with rfl|rfl<;>rfl
def Row (w:World)(A:Option Addr)(xs:List (Int×Int)):Prop :=
 0<xs.length → ∃b o,A=some ⟨b,o,none⟩ ∧ ∀j v,(cellsE xs)[j]?=some v→w.cell? ⟨b,o+j,none⟩=some v
theorem Row.below {w w':World}{A:Option Addr}{xs:List (Int×Int)}(h:Row w A xs)(hb:Below w.heap.size w w'):Row w' A xs:=fun hn=>by
 obtain ⟨b,o,e,hc⟩:=h hn;exact ⟨b,o,e,fun j v hv=>by have:=hc j v hv;rw [hb.cell (block_lt_of_cell this)];exact this⟩
theorem Row.nil (w:World)(A:Option Addr):Row w A []:=fun h=>by simp at h
theorem qm {w:World}{b o:Nat}{xs:List (Int×Int)}(hc:∀j v,(cellsE xs)[j]?=some v→w.cell? ⟨b,o+j,none⟩=some v)(i:Nat)(h:i<xs.length) :
  w.cell? ⟨b,o+i*2,none⟩=some (.int .i64 xs[i].1)∧w.cell? ⟨b,o+i*2+1,none⟩=some (.int .i64 xs[i].2):=by
 have e:=vK xs i h;exact ⟨hc _ _ e.1,hc _ _ e.2⟩
theorem add_plain (b o j:Nat):(⟨b,o,none⟩:Addr).add j=⟨b,o+j,none⟩:=by
 unfold Addr.add;split<;>simp_all
theorem yV (w:World)(xs:List (Int×Int))(t:TypeId):Row (w.alloc (.cells (cellsE xs).toArray t)) (some ⟨w.heap.size,0,none⟩) xs:=fun _ =>
 ⟨w.heap.size,0,rfl,fun j v hv=>by
  have e:(w.alloc (.cells (cellsE xs).toArray t)).heap[w.heap.size]?=some (.cells (cellsE xs).toArray t (0,0)):=heap_alloc_new w _;rw [Nat.zero_add,cell_of_row _ _ j _ _ _ e];simpa using hv⟩
end Go.Proofs.YtmeodbjlmjpnbaaGreat
namespace Go.Proofs.YtmeodbjlmjpnbaaGreat
open Go.RowKit
theorem below_grown {B:Nat}{w0 w w':World}{row:Option Nat}(hb:Below B w0 w)(hg:w.grownBy w' row)(hB:B≤w.heap.size)(hr:∀g,row=some g→B≤g):Below B w0 w' :=
 hb.trans ⟨hg.os,hg.tape,hg.output,hg.size,fun k hk=>hg.block k (by omega) (fun e=>by have:=hr k e.symm;omega)⟩
end Go.Proofs.YtmeodbjlmjpnbaaGreat
namespace Go.Proofs.YtmeodbjlmjpnbaaGreat
open Go.Sort Go.RowKit
def Chain {α : Type}(one : α→Value)(tc:TypeId)(m:Nat)(W:World):Option Addr→List α→Prop
 | p,[]=>p=none
 | p,x::xs => ∃(b:Nat) (q:Option Addr),p=some ⟨b,0,none⟩∧b<m∧W.heap[b]?=some (.cells #[one x,.pointer q] tc (0,0))∧Chain one tc m W q xs
section
variable {α : Type}{one : α→Value}{tc:TypeId}
theorem Chain.below {m:Nat}{A B:World}(h:Below m A B):∀{p:Option Addr} {xs:List α},Chain one tc m A p xs→Chain one tc m B p xs
 | _,[],hl=>hl
 | _,_::_,⟨b,q,hp,hb,hv,hr⟩=>⟨b,q,hp,hb,(h.block b hb).trans hv,Chain.below h hr⟩
theorem Chain.mono {m k:Nat}(h:m≤k){A:World}:∀{p:Option Addr} {xs:List α},Chain one tc m A p xs→Chain one tc k A p xs
 | _,[],hl=>hl
 | _,_::_,⟨b,q,hp,hb,hv,hr⟩=>⟨b,q,hp,Nat.lt_of_lt_of_le hb h,hv,Chain.mono h hr⟩
theorem Chain.same {m k:Nat}{W:World}:∀{p:Option Addr} {xs ys:List α},Chain one tc m W p xs→Chain one tc k W p ys→xs.length=ys.length
 | _,[],[],_,_=>rfl
 | _,[],_::_,h,⟨_,_,hp,_⟩=>by rw [h]at hp;cases hp
 | _,_::_,[],⟨_,_,hp,_⟩,h=>by rw [h]at hp;cases hp
 | _,x::xs,y::ys,⟨b,q,hp,_,hq,hr⟩,⟨b',q',hp',_,hq',hr'⟩=>by
  rw [hp]at hp';cases hp'
  rw [hq]at hq';have e:q=q':=by simp at hq';exact hq'.2
  subst e;simp only [List.length_cons,Chain.same hr hr']
theorem Chain.kept {m:Nat}{A B:World}{row:Option Nat}(hg:A.grownBy B row)(hr:∀r,row=some r → ∀cs,A.heap[r]?≠some (.cells cs tc (0,0))):∀{p:Option Addr} {xs:List α},Chain one tc m A p xs→Chain one tc m B p xs
 | _,[],hl=>hl
 | _,_::_,⟨b,q,hp,hb,hv,hr'⟩=>⟨b,q,hp,hb,(hg.block b (Array.getElem?_eq_some_iff.1 hv).1 (fun e=>hr b e.symm _ hv)).trans hv,Chain.kept hg hr hr'⟩
open Classical in
noncomputable def left (one : α→Value)(tc:TypeId)(m:Nat)(W:World)(v:Value):Nat :=
 if h:∃r:Option Addr×List α,v=.pointer r.1∧Chain one tc m W r.1 r.2 then (Classical.choose h).2.length else 0
theorem left_eq {m:Nat}{W:World}{q:Option Addr}{xs:List α}(h:Chain one tc m W q xs):left one tc m W (.pointer q)=xs.length:=by
 have hex:∃r:Option Addr×List α,Value.pointer q=.pointer r.1∧Chain one tc m W r.1 r.2:=⟨(q,xs),rfl,h⟩;unfold left;rw [dif_pos hex];obtain ⟨e,hl⟩:=Classical.choose_spec hex;injection e with e
 rw [←e]at hl;exact Chain.same hl h
def Ch (one : α→Value)(tc:TypeId)(W:World)(p:Option Addr)(xs:List α):Prop:=Chain one tc W.heap.size W p xs
theorem Ch.none (W:World):Ch one tc W Option.none ([]:List α):=rfl
theorem Ch.stay {A B:World}{p:Option Addr}{xs:List α}(h:Ch one tc A p xs)(hb:Below A.heap.size A B):Ch one tc B p xs:=(Chain.below hb h).mono hb.size
theorem Ch.alloc {A:World}{p:Option Addr}{xs:List α}(h:Ch one tc A p xs)(o:Obj):Ch one tc (A.alloc o) p xs:=h.stay (bG o)
theorem Ch.drew {A:World}{p:Option Addr}{xs:List α}(h:Ch one tc A p xs):Ch one tc A.drew p xs:=h.stay (Below.refl _ _).drew
theorem Ch.nil {A:World}{p:Option Addr}(h:Ch one tc A p ([]:List α)):p=Option.none:=h
theorem Ch.kept {A B:World}{row:Option Nat}(hg:A.grownBy B row)(hr:∀r,row=some r → ∀cs,A.heap[r]?≠some (.cells cs tc (0,0))){p:Option Addr}{xs:List α}(h:Ch one tc A p xs):Ch one tc B p xs:=(Chain.kept hg hr h).mono hg.size
theorem Ch.own {A B:World}{row:Option Nat}(hg:A.grownBy B row)(hr:∀r,row=some r → ∃o:Obj,A.heap[r]?=some o∧o.isCells=false){p:Option Addr}{xs:List α}(h:Ch one tc A p xs):Ch one tc B p xs :=
 h.kept hg (fun r e cs hc=>by obtain ⟨o,ho,hn⟩:=hr r e;rw [hc]at ho;cases ho;cases hn)
theorem uS (W:World)(g off:Nat)(v:Value):W.grownBy (W.setCell ⟨g,off,Option.none⟩ v) (some g) :=
 ⟨rfl,rfl,rfl,by simp [World.setCell],fun k _ hk=>Below.heap_setCell _ _ _ k (fun e=>hk (by rw [e]))⟩
theorem Ch.set {A:World}{p:Option Addr}{xs:List α}(h:Ch one tc A p xs){g:Nat}{cs:Array Value}{t:TypeId}{fr:Nat×Nat}(hg:A.heap[g]?=some (.cells cs t fr))(ht:t≠tc)(off:Nat)(v:Value):Ch one tc (A.setCell ⟨g,off,Option.none⟩ v) p xs :=
 h.kept (uS A g off v) (fun r e cs' hc=>by cases e;rw [hg]at hc;cases hc;exact ht rfl)
end
end Go.Proofs.YtmeodbjlmjpnbaaGreat
namespace Go.Proofs.YtmeodbjlmjpnbaaGreat
open Go.Sort Go.RowKit
theorem jY (b o j:Nat):(⟨b,o,none⟩:Addr).add j=⟨b,o+j,none⟩:=by
 unfold Addr.add;split<;>simp_all
theorem lt_of_cell {w:World}{a:Addr}{v:Value}(h:w.cell? a=some v):a.block<w.heap.size:=by
 unfold World.cell? at h
 cases hh:w.heap[a.block]? with
 | none=>rw [hh]at h;cases h
 | some o=>exact (Array.getElem?_eq_some_iff.1 hh).1
def Row1 {α : Type}(one : α→Value)(w:World)(A:Option Addr)(xs:List α):Prop :=
 0<xs.length → ∃b o,A=some ⟨b,o,none⟩ ∧ ∀(j:Nat) (hj:j<xs.length),w.cell? ⟨b,o+j,none⟩=some (one xs[j])
section
variable {α : Type}{one : α→Value}
theorem Row1.nil (w:World)(A:Option Addr):Row1 one w A ([]:List α):=fun h=>by simp at h
theorem Row1.stay {w w':World}{A:Option Addr}{xs:List α}(h:Row1 one w A xs)(hb:Below w.heap.size w w'):Row1 one w' A xs:=fun h0=>by
 obtain ⟨b,o,e,hc⟩:=h h0;have hlt:=lt_of_cell (hc 0 h0);exact ⟨b,o,e,fun j hj=>(hb.cell (p:=⟨b,o+j,none⟩) hlt).trans (hc j hj)⟩
theorem Row1.below {w w':World}{B:Nat}{b o:Nat}{xs:List α}(h:Row1 one w (some ⟨b,o,none⟩) xs)(hb:Below B w w')(hB:b<B):Row1 one w' (some ⟨b,o,none⟩) xs:=fun h0=>by
 obtain ⟨b',o',e,hc⟩:=h h0;injection e with e
 injection e with e1 e2
 subst e1;subst e2;exact ⟨b,o,rfl,fun j hj=>(hb.cell (p:=⟨b,o+j,none⟩) hB).trans (hc j hj)⟩
def Reads (one : α→Value)(w:World)(v:Value)(xs:List α):Prop :=
 ∃A c,v=.slice A xs.length c∧Row1 one w A xs∧xs.length≤c∧c≤9223372036854775807∧(A=none→c=0)
theorem Reads.stay {w w':World}{v:Value}{xs:List α}(h:Reads one w v xs)(hb:Below w.heap.size w w'):Reads one w' v xs:=by
 obtain ⟨A,c,e,hr,h1,h2,h3⟩:=h;exact ⟨A,c,e,hr.stay hb,h1,h2,h3⟩
def Mine (one : α→Value)(e:TypeId)(w:World)(base:Nat)(v:Value)(xs:List α):Prop:=w.ownsRow base e 1 v xs.length (xs.map one)
theorem Mine.none (e:TypeId)(w:World)(base:Nat):Mine one e w base (.slice Option.none 0 0) ([]:List α):=World.ownsRow_nil w base _ _
theorem Mine.form {e:TypeId}{w:World}{base:Nat}{v:Value}{xs:List α}(h:Mine one e w base v xs):Reads one w v xs:=by
 have h0:=h;rcases h.2 with ⟨rfl,hn⟩|⟨g,cap,cur,rfl,hb,hg,hc,hm,_⟩
 ·obtain rfl:xs=[]:=List.eq_nil_of_length_eq_zero hn;exact ⟨Option.none,0,rfl,Row1.nil _ _,Nat.le_refl _,by omega,fun _=>rfl⟩
 ·refine ⟨_,cap,rfl,fun _=>⟨g,0,rfl,fun j hj=>?_⟩,hc,by unfold maxLen at hm;omega,fun e=>by cases e⟩
  have:=h0.cells (g:=g) rfl j (one xs[j]) (by simp [hj]);rwa [jY]at this
theorem Mine.block {e:TypeId}{w:World}{base:Nat}{v:Value}{xs:List α}(h:Mine one e w base v xs):∀g,v.ownBlock=some g→base≤g:=fun g hg=>(World.ownsRow.lt h g hg).1
theorem Mine.stay {e:TypeId}{w w':World}{base:Nat}{v:Value}{xs:List α}(h:Mine one e w base v xs)(hb:Below w.heap.size w w'):Mine one e w' base v xs:=by
 refine World.ownsRow.kept h (row:=Option.none) ⟨hb.os,hb.tape,hb.output,hb.size,fun k hk _=>hb.block k hk⟩ ?_
 cases v.ownBlock<;>simp
end
end Go.Proofs.YtmeodbjlmjpnbaaGreat
namespace Go.Proofs.YtmeodbjlmjpnbaaGreat
open Go.Sort Go.RowKit
structure But (b:Nat)(w w':World):Prop where
 os:w'.os=w.os
 tape:w'.tape=w.tape
 output:w'.output=w.output
 size:w.heap.size≤w'.heap.size
 block:∀k,k<w.heap.size→k≠b→w'.heap[k]?=w.heap[k]?
theorem But.refl (b:Nat)(w:World):But b w w:=⟨rfl,rfl,rfl,Nat.le_refl _,fun _ _ _=>rfl⟩
theorem But.trans {b:Nat}{u v w:World}(h:But b u v)(k:But b v w):But b u w :=
 ⟨k.os.trans h.os,k.tape.trans h.tape,k.output.trans h.output,Nat.le_trans h.size k.size,fun i hi hb=>(k.block i (Nat.lt_of_lt_of_le hi h.size) hb).trans (h.block i hi hb)⟩
theorem But.aV {b:Nat}{w w':World}(h:Below w.heap.size w w'):But b w w':=⟨h.os,h.tape,h.output,h.size,fun k hk _=>h.block k hk⟩
theorem But.set (b off:Nat)(w:World)(v:Value):But b w (w.setCell ⟨b,off,none⟩ v) :=
 ⟨rfl,rfl,rfl,by simp [World.setCell],fun k _ hb=>Below.heap_setCell w ⟨b,off,none⟩ v k hb⟩
theorem But.alloc {b:Nat}{u w:World}(h:But b u w)(o:Obj):But b u (w.alloc o) :=
 h.trans (But.aV (bG o))
theorem But.cell {b:Nat}{w w':World}(h:But b w w'){p:Addr}(hp:p.block<w.heap.size)(hb:p.block≠b):w'.cell? p=w.cell? p:=World.cell?_of_block (w:=w) (h.block p.block hp hb)
theorem But.frozen {b:Nat}{w w':World}(h:But b w w'){p:Addr}(hp:p.block<w.heap.size)(hb:p.block≠b):w'.frozen? p=w.frozen? p:=World.frozen?_of_block (w:=w) (h.block p.block hp hb)
theorem But.pair {b c:Nat}{w w':World}{x y:Int}(h:But b w w')(hp:bn w c x y)(hb:c≠b):bn w' c x y:=by
 obtain ⟨k,l,m,n,o⟩:=hp;exact ⟨(h.cell (p:=⟨c,0,none⟩) o hb).trans k,(h.cell (p:=⟨c,1,none⟩) o hb).trans l,(h.frozen (p:=⟨c,0,none⟩) o hb).trans m,(h.frozen (p:=⟨c,1,none⟩) o hb).trans n,Nat.lt_of_lt_of_le o h.size⟩
theorem But.below {b B:Nat}{u w w':World}(h:But b w w')(hu:Below B u w)(hB:B≤b)(hw:B≤w.heap.size):Below B u w' :=
 hu.trans ⟨h.os,h.tape,h.output,h.size,fun k hk=>h.block k (Nat.lt_of_lt_of_le hk hw) (by omega)⟩
theorem bn.set0 {w:World}{b:Nat}{x y:Int}(h:bn w b x y)(x':Int):bn (w.setCell ⟨b,0,none⟩ (.int .i64 x')) b x' y:=by
 obtain ⟨a,c,d,e,f⟩:=h;refine ⟨World.cell?_setCell_same _ _ _ a,(World.cell?_setCell_other _ _ _ _ (by simp)).trans c,?_,?_,by simpa [World.setCell] using f⟩
 ·rw [World.frozen?_setCell];exact d
 ·rw [World.frozen?_setCell];exact e
theorem bn.set1 {w:World}{b:Nat}{x y:Int}(h:bn w b x y)(y':Int):bn (w.setCell ⟨b,1,none⟩ (.int .i64 y')) b x y':=by
 obtain ⟨a,c,d,e,f⟩:=h;refine ⟨(World.cell?_setCell_other _ _ _ _ (by simp)).trans a,World.cell?_setCell_same _ _ _ c,?_,?_,by simpa [World.setCell] using f⟩
 ·rw [World.frozen?_setCell];exact d
 ·rw [World.frozen?_setCell];exact e
theorem bn.Hr {w:World}{b:Nat}{x y:Int}(h:bn w b x y)(d:Nat)(os:Array Obj):bn (grow (redrawn w d) os) b x y :=
 h.below (below_regrown w d os) h.2.2.2.2
theorem bn.c0 {w:World}{b:Nat}{x y:Int}(h:bn w b x y):w.cell? ⟨b,0,none⟩=some (.int .i64 x):=h.1
theorem bn.c1 {w:World}{b:Nat}{x y:Int}(h:bn w b x y):w.cell? ⟨b,1,none⟩=some (.int .i64 y):=h.2.1
theorem bn.z0 {w:World}{b:Nat}{x y:Int}(h:bn w b x y):w.frozen? ⟨b,0,none⟩=false:=h.2.2.1
theorem bn.z1 {w:World}{b:Nat}{x y:Int}(h:bn w b x y):w.frozen? ⟨b,1,none⟩=false:=h.2.2.2.1
theorem bn.lt {w:World}{b:Nat}{x y:Int}(h:bn w b x y):b<w.heap.size:=h.2.2.2.2
end Go.Proofs.YtmeodbjlmjpnbaaGreat
namespace Go.Proofs.YtmeodbjlmjpnbaaGreat
open Go.RowKit
def AQ {α : Type}(F:Fence)(n:Nat)(P:Program)(gf:Nat)(fs:Array Value)(one : α→Value)(m:Nat)(xs:List α)(w:World):Prop :=
 ∀(l:Nat) (J:List α→World→Prop) (W:World),Below w.heap.size w W→(∀s A o,J s A→J s (A.alloc o)) →
  (∀pre x W1,J pre W1→pre.length<xs.length→YieldAt F (n - 1) P l #[one x] W1 fun e W'=>e=.returned (.bool true)∧J (pre++[x]) W'∧Below m W1 W')→J [] W →
  CallsIn F n P gf (fs++#[.func (.yield l) #[] #[]]) W fun e W'=>(∃v,e=.returned v)∧J xs W'
def EL {α : Type}(B m:Nat)(I:List α→World→Prop)(xs:List α)(W:World):Exit→Act→World→Prop
 | .normal,_,W'=>KeepsFrom B W W'∧Below m W W'∧I xs W'
 | _,_,_=>False
def recAt (fn:FuncId)(tmps:Array Value)(ps:Array Tmp)(assign body:Code)(b:Nat)(st:LoopState):Loop :=
 { state:=st,pending:=none,fn,tmps,params:=ps,assign,body,defers:=b }
theorem oq {F:Fence}{n:Nat}{P:Program}{α : Type}{g:Operand}{p:Tmp}{assign body:Code}{Q:Exit→Act→World→Prop}{a:Act}{w:World}
  (hro:F.round=none) (h1:1≤n) {gf:Nat} {fs:Array Value} (hg:a.eval g=.func (.func gf) fs #[]) (hF:F.fn gf) (eg:∀args w,(callFunc gf args).run P w=.ok (.enter gf args) w)
  {one : α→Value} {m:Nat} {xs:List α} (hseq:AQ F (n - 1) P gf fs one m xs w) (hm:m≤w.heap.size)
  (I:List α→World→Prop) (hI:OwnFrom w.heap.size I) (h0:I [] w) (a₁ : α→Act)
  (hassign:∀(l:Nat) (x : α) (W:World) (K:Act→World→Prop),K (a₁ x) W→assign.wpIn (F.inRound l) (n - 1 - 1) P (Exit.then K (fun _ _ _=>False)) { tmps:=a.tmps.setIfInBounds p (one x),defers:=[] } W)
  (hbody:∀(l:Nat) (pre:List α) (x : α) (W:World),I pre W→pre.length<xs.length→body.wpIn (F.inRound l) (n - 1 - 1) P (EL w.heap.size m I (pre++[x]) W) (a₁ x) W)
  (hdone:∀(D:Nat) (W:World),w.heap.size≤D→I xs W→W.heap[D]?=some (.deferred (some []))→Q .normal { a with defers:={ target := .collected D,args:=#[] }::a.defers } W) :
  (Code.rangeFunc g #[p] assign body).wpIn F n P Q a w:=by
 refine wpIn_rangeFunc ?_;intro fn hfn;rw [hro];let R:LoopState→Obj:=fun st=>.loop (recAt fn a.tmps #[p] assign body w.heap.size st)
 let W1:World:=(w.alloc (.deferred (some []))).alloc (R .ready)
 have hs1:W1.heap.size=w.heap.size+1+1:=by simp [W1]
 have hL1:W1.heap[w.heap.size+1]?=some (R .ready):=by
  have:=World.alloc_heap_new (w.alloc (.deferred (some []))) (R .ready);rwa [World.size_alloc]at this
 have hK1:W1.heap[w.heap.size]?=some (.deferred (some [])):=(Below.heap_alloc _ _ _ (by simp)).trans (World.alloc_heap_new w _);have hb1:Below w.heap.size w W1:=((Below.refl _ w).alloc (Nat.le_refl _) _).alloc (by simp) _;refine ⟨w.heap.size+1,[{ target := .collected w.heap.size,args:=#[] }],W1,{ target := .fn (.func gf) #[],args:=fs++#[.func (.yield (w.heap.size+1)) #[] #[]] },W1,gf,fs++#[.func (.yield (w.heap.size+1)) #[] #[]],W1,?_,?_,?_,?_,fun _=>h1,?_⟩
 ·exact run_enterLoop_outer _ _ _ _ _
 ·simp only [resolve,hg];simp [go_sem]
 ·intro f' hf';simp [Target.leads]at hf';subst hf';exact hF
 ·simp [invoke,go_sem,eg]
 ·refine (hseq (w.heap.size+1) (fun pre W=>I pre W∧W.heap[w.heap.size+1]?=some (R .ready)∧W.heap[w.heap.size]?=some (.deferred (some []))) W1 hb1 ?_ ?_ ⟨hI.alloc _ (hI.alloc _ h0),hL1,hK1⟩).mono ?_
  ·rintro s A o ⟨hi,hl,hk⟩;exact ⟨hI.alloc _ hi,(Below.heap_alloc _ _ _ (Array.getElem?_eq_some_iff.1 hl).1).trans hl,(Below.heap_alloc _ _ _ (Array.getElem?_eq_some_iff.1 hk).1).trans hk⟩
  ·rintro pre x W ⟨hi,hl,hk⟩ hlen;have hlt:w.heap.size+1<W.heap.size:=(Array.getElem?_eq_some_iff.1 hl).1;have hy:=run_yield (P:=P) (args:=#[one x]) hl (by rfl);have et:((recAt fn a.tmps #[p] assign body w.heap.size .ready).params.zip #[one x]).foldl (fun t (q,v)=>t.setIfInBounds q v) (recAt fn a.tmps #[p] assign body w.heap.size .ready).tmps=a.tmps.setIfInBounds p (one x):=by simp [recAt]
   rw [et]at hy;refine ⟨fn,_,assign,body,hy,roundIn_of_wpIn hfn ?_⟩;refine hassign _ x W _ ⟨_,run_beginRound hl rfl,?_⟩;have hl2:(W.putObj (w.heap.size+1) (R .busy)).heap[w.heap.size+1]?=some (R .busy):=World.putObj_heap_same hlt;have hk2:(W.putObj (w.heap.size+1) (R .busy)).heap[w.heap.size]?=some (.deferred (some [])):=(World.putObj_heap_other (by omega)).trans hk;have hw2:Below m W (W.putObj (w.heap.size+1) (R .busy)):=belowK_b hm _ _ _ _ (by omega) hl rfl rfl;refine wpIn_mono (hbody _ pre x (W.putObj (w.heap.size+1) (R .busy)) (hI.putObj _ hi (by omega) hl rfl) hlen) ?_;rintro e a3 W3 hp
   cases e with
   | normal =>
    obtain ⟨hk3,hb3,hi3⟩:=hp;have hl3:=hk3.same _ _ (by omega) hl2 rfl;refine ⟨_,_,run_endRound none hl3,rfl,⟨hI.putObj _ hi3 (by omega) hl3 rfl,?_,?_⟩,(hw2.trans hb3).trans (belowK_b hm _ _ _ _ (by omega) hl3 rfl rfl)⟩
    ·exact World.putObj_heap_same (Array.getElem?_eq_some_iff.1 hl3).1
    ·exact (World.putObj_heap_other (by omega)).trans (hk3.same _ _ (Nat.le_refl _) hk2 rfl)
   | ret=>exact hp.elim
   | exit id=>exact hp.elim
   | goto t=>exact hp.elim
   | panic ch=>exact hp.elim
   | outgrown=>exact hp.elim
  ·rintro e W2 ⟨⟨v,rfl⟩,hi,hl,hk⟩;exact ⟨none,_,run_endLoop hl (by simp [recAt]),hdone _ _ (Nat.le_refl _) (hI.putObj _ hi (by omega) hl rfl) ((World.putObj_heap_other (by omega)).trans hk)⟩
end Go.Proofs.YtmeodbjlmjpnbaaGreat
namespace Go.Proofs.YtmeodbjlmjpnbaaGreat
open Go.RowKit
theorem zJ {F:Fence}{n:Nat}{P:Program}{α : Type}{g:Operand}{p:Tmp}{assign body:Code}{Q:Exit→Act→World→Prop}{a:Act}{w:World}
  (hro:F.round=none) (h1:1≤n) {gf:Nat} {fs:Array Value} (hg:a.eval g=.func (.func gf) fs #[]) (hF:F.fn gf) (eg:∀args w,(callFunc gf args).run P w=.ok (.enter gf args) w)
  {one : α→Value} {m:Nat} {xs:List α} (hseq:AQ F (n - 1) P gf fs one m xs w) (hm:m≤w.heap.size)
  (I:List α→World→Prop) (hI:OwnFrom w.heap.size I) (h0:I [] w) (J : α→Act→World→Prop) (hJ:∀x a1,OwnFrom w.heap.size (fun (_:List α) W=>J x a1 W))
  (hassign:∀(l:Nat) (x : α) (W:World) (K:Act→World→Prop),(∀a1 W1,J x a1 W1→Below W.heap.size W W1→K a1 W1)→assign.wpIn (F.inRound l) (n - 1 - 1) P (Exit.then K (fun _ _ _=>False)) { tmps:=a.tmps.setIfInBounds p (one x),defers:=[] } W)
  (hbody:∀(l:Nat) (pre:List α) (x : α) (a1:Act) (W:World),J x a1 W→I pre W→pre.length<xs.length→body.wpIn (F.inRound l) (n - 1 - 1) P (EL w.heap.size m I (pre++[x]) W) a1 W)
  (hdone:∀(D:Nat) (W:World),w.heap.size≤D→I xs W→W.heap[D]?=some (.deferred (some []))→Q .normal { a with defers:={ target := .collected D,args:=#[] }::a.defers } W) :
  (Code.rangeFunc g #[p] assign body).wpIn F n P Q a w:=by
 refine wpIn_rangeFunc ?_;intro fn hfn;rw [hro];let R:LoopState→Obj:=fun st=>.loop (recAt fn a.tmps #[p] assign body w.heap.size st)
 let W1:World:=(w.alloc (.deferred (some []))).alloc (R .ready)
 have hs1:W1.heap.size=w.heap.size+1+1:=by simp [W1]
 have hL1:W1.heap[w.heap.size+1]?=some (R .ready):=by
  have:=World.alloc_heap_new (w.alloc (.deferred (some []))) (R .ready);rwa [World.size_alloc]at this
 have hK1:W1.heap[w.heap.size]?=some (.deferred (some [])):=(Below.heap_alloc _ _ _ (by simp)).trans (World.alloc_heap_new w _);have hb1:Below w.heap.size w W1:=((Below.refl _ w).alloc (Nat.le_refl _) _).alloc (by simp) _;refine ⟨w.heap.size+1,[{ target := .collected w.heap.size,args:=#[] }],W1,{ target := .fn (.func gf) #[],args:=fs++#[.func (.yield (w.heap.size+1)) #[] #[]] },W1,gf,fs++#[.func (.yield (w.heap.size+1)) #[] #[]],W1,?_,?_,?_,?_,fun _=>h1,?_⟩
 ·exact run_enterLoop_outer _ _ _ _ _
 ·simp only [resolve,hg];simp [go_sem]
 ·intro f' hf';simp [Target.leads]at hf';subst hf';exact hF
 ·simp [invoke,go_sem,eg]
 ·refine (hseq (w.heap.size+1) (fun pre W=>I pre W∧W.heap[w.heap.size+1]?=some (R .ready)∧W.heap[w.heap.size]?=some (.deferred (some []))) W1 hb1 ?_ ?_ ⟨hI.alloc _ (hI.alloc _ h0),hL1,hK1⟩).mono ?_
  ·rintro s A o ⟨hi,hl,hk⟩;exact ⟨hI.alloc _ hi,(Below.heap_alloc _ _ _ (Array.getElem?_eq_some_iff.1 hl).1).trans hl,(Below.heap_alloc _ _ _ (Array.getElem?_eq_some_iff.1 hk).1).trans hk⟩
  ·rintro pre x W0 ⟨hi0,hl0,hk0⟩ hlen;have hlt0:w.heap.size+1<W0.heap.size:=(Array.getElem?_eq_some_iff.1 hl0).1;have hy:=run_yield (P:=P) (args:=#[one x]) hl0 (by rfl);have et:((recAt fn a.tmps #[p] assign body w.heap.size .ready).params.zip #[one x]).foldl (fun t (q,v)=>t.setIfInBounds q v) (recAt fn a.tmps #[p] assign body w.heap.size .ready).tmps=a.tmps.setIfInBounds p (one x):=by simp [recAt]
   rw [et]at hy;refine ⟨fn,_,assign,body,hy,roundIn_of_wpIn hfn ?_⟩;refine hassign _ x W0 _ (fun a1 W hj hbw=>?_);have hl:W.heap[w.heap.size+1]?=some (R .ready):=(hbw.block _ hlt0).trans hl0;have hk:W.heap[w.heap.size]?=some (.deferred (some [])):=(hbw.block _ (by omega)).trans hk0;have hi:I pre W:=hI pre W0 W none hi0 ⟨hbw.os,hbw.tape,hbw.output,hbw.size,fun k hk _=>hbw.block k hk⟩ (fun r e=>by cases e);have hlt:w.heap.size+1<W.heap.size:=(Array.getElem?_eq_some_iff.1 hl).1;refine ⟨_,run_beginRound hl rfl,?_⟩;have hl2:(W.putObj (w.heap.size+1) (R .busy)).heap[w.heap.size+1]?=some (R .busy):=World.putObj_heap_same hlt;have hk2:(W.putObj (w.heap.size+1) (R .busy)).heap[w.heap.size]?=some (.deferred (some [])):=(World.putObj_heap_other (by omega)).trans hk;have hw2:Below m W (W.putObj (w.heap.size+1) (R .busy)):=belowK_b hm _ _ _ _ (by omega) hl rfl rfl;have hw0:Below m W0 W:=hbw.mono (by omega);refine wpIn_mono (hbody _ pre x a1 (W.putObj (w.heap.size+1) (R .busy)) ((hJ x a1).putObj (s:=[]) _ hj (by omega) hl rfl) (hI.putObj _ hi (by omega) hl rfl) hlen) ?_;rintro e a3 W3 hp
   cases e with
   | normal =>
    obtain ⟨hk3,hb3,hi3⟩:=hp;have hl3:=hk3.same _ _ (by omega) hl2 rfl;refine ⟨_,_,run_endRound none hl3,rfl,⟨hI.putObj _ hi3 (by omega) hl3 rfl,?_,?_⟩,((hw0.trans hw2).trans hb3).trans (belowK_b hm _ _ _ _ (by omega) hl3 rfl rfl)⟩
    ·exact World.putObj_heap_same (Array.getElem?_eq_some_iff.1 hl3).1
    ·exact (World.putObj_heap_other (by omega)).trans (hk3.same _ _ (Nat.le_refl _) hk2 rfl)
   | ret=>exact hp.elim
   | exit id=>exact hp.elim
   | goto t=>exact hp.elim
   | panic ch=>exact hp.elim
   | outgrown=>exact hp.elim
  ·rintro e W2 ⟨⟨v,rfl⟩,hi,hl,hk⟩;exact ⟨none,_,run_endLoop hl (by simp [recAt]),hdone _ _ (Nat.le_refl _) (hI.putObj _ hi (by omega) hl rfl) ((World.putObj_heap_other (by omega)).trans hk)⟩
end Go.Proofs.YtmeodbjlmjpnbaaGreat
namespace Go.Proofs.YtmeodbjlmjpnbaaGreat
open Go.Sort Go.RowKit
def aB (W:World)(b:Nat)(t:TypeId)(x y:Value):Prop:=W.heap[b]?=some (.cells #[x,y] t (0,0))
section
variable {W W':World}{b:Nat}{t:TypeId}{x y:Value}
theorem aB.lt (h:aB W b t x y):b<W.heap.size:=(Array.getElem?_eq_some_iff.1 h).1
theorem aB.c0 (h:aB W b t x y):W.cell? ⟨b,0,none⟩=some x:=by simp [World.cell?,show W.heap[b]?=_ from h]
theorem aB.c1 (h:aB W b t x y):W.cell? ⟨b,1,none⟩=some y:=by simp [World.cell?,show W.heap[b]?=_ from h]
theorem aB.z0 (h:aB W b t x y):W.frozen? ⟨b,0,none⟩=false:=by simp [World.frozen?,show W.heap[b]?=_ from h]
theorem aB.z1 (h:aB W b t x y):W.frozen? ⟨b,1,none⟩=false:=by simp [World.frozen?,show W.heap[b]?=_ from h]
theorem aB.new (W:World)(t:TypeId)(x y:Value):aB (W.alloc (.cells #[x,y] t)) W.heap.size t x y:=World.alloc_heap_new W _
theorem aB.stay (h:aB W b t x y)(hb:Below W.heap.size W W'):aB W' b t x y:=(hb.block b h.lt).trans h
theorem aB.below {B:Nat}(h:aB W b t x y)(hb:Below B W W')(hB:b<B):aB W' b t x y:=(hb.block b hB).trans h
theorem aB.alloc (h:aB W b t x y)(o:Obj):aB (W.alloc o) b t x y:=h.stay (bG o)
theorem aB.kept {row:Option Nat}(h:aB W b t x y)(hg:W.grownBy W' row)(hr:∀r,row=some r → ∃o:Obj,W.heap[r]?=some o∧o.isCells=false):aB W' b t x y :=
 (hg.block b h.lt (fun e=>by obtain ⟨o,ho,hc⟩:=hr b e.symm;rw [show W.heap[b]?=_ from h]at ho;cases ho;cases hc)).trans h
theorem aB.set0 (h:aB W b t x y)(x':Value):aB (W.setCell ⟨b,0,none⟩ x') b t x' y:=by
 obtain ⟨hlt,hk⟩:=Array.getElem?_eq_some_iff.1 h;show (W.heap.modify b _)[b]?=_;rw [Array.getElem?_eq_getElem (by rw [Array.size_modify];exact hlt),Array.getElem_modify_self,hk];rfl
theorem aB.set1 (h:aB W b t x y)(y':Value):aB (W.setCell ⟨b,1,none⟩ y') b t x y':=by
 obtain ⟨hlt,hk⟩:=Array.getElem?_eq_some_iff.1 h;show (W.heap.modify b _)[b]?=_;rw [Array.getElem?_eq_getElem (by rw [Array.size_modify];exact hlt),Array.getElem_modify_self,hk];rfl
theorem aB.set (h:aB W b t x y)(x' y':Value):aB ((W.setCell ⟨b,0,none⟩ x').setCell ⟨b,1,none⟩ y') b t x' y':=(h.set0 x').set1 y'
theorem aB.other (h:aB W b t x y){p:Addr}(hp:p.block≠b)(u:Value):aB (W.setCell p u) b t x y:=(Below.heap_setCell W p u b (fun e=>hp e.symm)).trans h
theorem aB.aside (h:aB W b t x y){g:Nat}(hg:g≠b)(u v:Value):aB ((W.setCell ⟨g,0,none⟩ u).setCell ⟨g,1,none⟩ v) b t x y:=(h.other (p:=⟨g,0,none⟩) hg u).other (p:=⟨g,1,none⟩) hg v
theorem aB.put {l:Nat}{o:Obj}(h:aB W b t x y)(o':Obj)(hl:W.heap[l]?=some o)(ho:o.isCells=false):aB (W.putObj l o') b t x y :=
 h.kept (grownBy_putObj' W l o') (fun r e=>by cases e;exact ⟨o,hl,ho⟩)
end
theorem aL {B g:Nat}{u w:World}(h:Below B u w)(hB:B≤g)(x y:Value):Below B u ((w.setCell ⟨g,0,none⟩ x).setCell ⟨g,1,none⟩ y):=(h.setCell (p:=⟨g,0,none⟩) hB x).setCell (p:=⟨g,1,none⟩) hB y
theorem Ch.set2 {α : Type}{one : α→Value}{tc:TypeId}{W:World}{p:Option Addr}{xs:List α}(h:Ch one tc W p xs){b:Nat}{t:TypeId}{x y:Value}(hb:aB W b t x y)(ht:t≠tc)(u v:Value):Ch one tc ((W.setCell ⟨b,0,Option.none⟩ u).setCell ⟨b,1,Option.none⟩ v) p xs :=
 (h.set hb ht 0 u).set (hb.set0 u) ht 1 v
theorem gG {W:World}{b g off:Nat}{v:Value}(hg:b≠g)(h:W.cell? ⟨b,off,none⟩=some v)(x y:Value):((W.setCell ⟨g,0,none⟩ x).setCell ⟨g,1,none⟩ y).cell? ⟨b,off,none⟩=some v:=by
 rw [World.cell?_setCell_other _ _ _ _ (fun e=>hg (by injection e with e;exact e.symm)),World.cell?_setCell_other _ _ _ _ (fun e=>hg (by injection e with e;exact e.symm))];exact h
theorem gH {B:Nat}{W W':World}(h:Below W.heap.size W W'):KeepsFrom B W W':=⟨h.size,fun k _ _ hk _=>(h.block k (Array.getElem?_eq_some_iff.1 hk).1).trans hk⟩
theorem qc (B g:Nat)(W:World)(u v:Value):KeepsFrom B W ((W.setCell ⟨g,0,none⟩ u).setCell ⟨g,1,none⟩ v):=((KeepsOthers.setCell W ⟨g,0,none⟩ u).trans (KeepsOthers.setCell _ ⟨g,1,none⟩ v)).from B
end Go.Proofs.YtmeodbjlmjpnbaaGreat
namespace Go.Proofs.YtmeodbjlmjpnbaaGreat
open Go.ChangeShapes Go.WideShapes Go.ChangeAt Go.RowKit Go.Joins
theorem own:ownKnob Tryz.prog.godebug=none:=by kernel_rfl
theorem laidOut:laidOutB Tryz.prog=true:=by kernel_rfl
theorem AX {n:Int}(h:(Lit.int .i64 n).wf=true) : -9223372036854775808≤n∧n≤9223372036854775807:=by
 have e1:IntKind.i64.min = -9223372036854775808:=rfl;have e2:IntKind.i64.max=9223372036854775807:=rfl;simp [Lit.wf,e1,e2]at h;omega
theorem byte_of_wf {n:Int}(h:(Lit.int .u8 n).wf=true):∃m:Nat,n=m∧m<256:=by
 have e1:IntKind.u8.min=0:=rfl;have e2:IntKind.u8.max=255:=rfl;simp [Lit.wf,e1,e2]at h;exact ⟨n.toNat,by omega,by omega⟩
end Go.Proofs.YtmeodbjlmjpnbaaGreat
namespace Go.Proofs.YtmeodbjlmjpnbaaGreat
open Go.ChangeShapes Go.WideShapes Go.ChangeAt Go.RowKit Go.Joins
theorem Dt:Tryz.prog.cellsOf 29=2:=by kernel_rfl
section
variable {H:Type}{enc:TypeId×Value→H}{w:World}{base:Nat}{spare:Nat→Bool}{held:Bool}
end
end Go.Proofs.YtmeodbjlmjpnbaaGreat
namespace Go.Proofs.YtmeodbjlmjpnbaaGreat
open Go.ChangeShapes Go.WideShapes Go.ChangeAt Go.RowKit Go.Deep
def yh:Value→Int
 | .int _ n=>n
 | _=>0
theorem plain_of_cell {w:World}{a:Addr}{v:Value}(h:w.cell? a=some v):a=⟨a.block,a.off,none⟩:=by
 obtain ⟨b,o,s⟩:=a
 cases s with
 | none=>rfl
 | some x =>
  unfold World.cell? at h;split at h
  ·simp at h
  ·cases h
section
variable {H:Type}{enc:TypeId×Value→H}{w:World}{base:Nat}{held:Bool}
theorem CF {r:Reach}{b0:Nat}{v:Value}{d:DataW H}{p:List MemPlace}(hv:Value.okWide Tryz.prog w r b0 22 v)(h:DataW.Trod enc Tryz.prog w base (fun _=>true) held 22 v d p) :
  ∃(A:Option Addr) (xs:List (Int×Int)) (c:Nat),v=.slice A xs.length c∧Row w A xs∧xs.length≤c∧c≤9223372036854775807∧(A=none→c=0) ∧
   ∀e∈xs,(-9223372036854775808≤e.1∧e.1≤9223372036854775807)∧(-9223372036854775808≤e.2∧e.2≤9223372036854775807):=by
 obtain ⟨fuel,hf⟩:=h;obtain ⟨a0,l0,c0,rfl⟩:=okWide_slice Tryz.underlying22 hv;have hs:=Tryz.underlying29;rcases open_slice_pairs (enc:=enc) (w:=w) (base:=base) (held:=held) Tryz.underlying22 hs Dt (by kernel_rfl) (by kernel_rfl) (by kernel_rfl) (by kernel_rfl) hf with ⟨hcs, -⟩|⟨a,len,cap,m,n,V0,V1,D0,D1,P0,P1,hcs, -,hlc,hcm,hm, -,hall⟩
 ·have e1:Value.slice a0 l0 c0=.slice none 0 0:=by simpa [Value.cells] using hcs
  rw [e1];exact ⟨none,[],0,rfl,Row.nil _ _,Nat.le_refl _,by omega,fun _=>rfl,by simp⟩
 ·have e1:Value.slice a0 l0 c0=.slice (some a) len cap:=by simpa [Value.cells] using hcs
  rw [e1];have hlm:len≤m:=by rw [hm];simp;exact hlc
  have hel:∀i,i<len→V0 i=.int .i64 (yh (V0 i))∧V1 i=.int .i64 (yh (V1 i))∧(-9223372036854775808≤yh (V0 i)∧yh (V0 i)≤9223372036854775807)∧(-9223372036854775808≤yh (V1 i)∧yh (V1 i)≤9223372036854775807):=by
   intro i hi;obtain ⟨-, -,t0,t1⟩:=hall i (by omega);obtain ⟨x,ex, -,wx⟩:=DataW.trod_int Tryz.underlying2 t0;obtain ⟨y,ey, -,wy⟩:=DataW.trod_int Tryz.underlying2 t1;injection ex with ex
   injection ey with ey
   rw [ex,ey];exact ⟨rfl,rfl,AX wx,AX wy⟩
  refine ⟨some a,(List.range len).map fun i=>(yh (V0 i),yh (V1 i)),cap,by simp,?_,by simpa using hlc,by unfold maxLen at hcm;omega,(fun e=>by cases e),?_⟩
  ·intro hpos;have hpos':0<len:=by simpa using hpos
   have h0:=(hall 0 (by omega)).1;have ea:a.add (0*2)=a:=by unfold Addr.add;simp
   rw [ea]at h0;have ha:=plain_of_cell h0;refine ⟨a.block,a.off,by rw [←ha],fun j v hj=>?_⟩
   have hjl:j<len*2:=by
    have h1:=(List.getElem?_eq_some_iff.1 hj).1;rw [oJ]at h1;simpa using h1
   have hi:j / 2<len:=by omega
   have hc:=vK ((List.range len).map fun i=>(yh (V0 i),yh (V1 i))) (j / 2) (by simpa using hi);obtain ⟨q0,q1, -, -⟩:=hall (j / 2) (by omega);obtain ⟨n0,n1, -, -⟩:=hel (j / 2) hi;rw [ha,add_plain]at q0 q1;simp only [List.getElem_map,List.getElem_range]at hc;rcases Nat.mod_two_eq_zero_or_one j with hz|hz
   ·have ej:j / 2*2=j:=by omega
    rw [ej]at hc q0;have:=hc.1.symm.trans hj;injection this with this
    rw [←this,←n0];exact q0
   ·have ej:j / 2*2+1=j:=by omega
    rw [ej]at hc q1;have:=hc.2.symm.trans hj;injection this with this
    rw [←this,←n1];exact q1
  ·intro e he;simp only [List.mem_map,List.mem_range]at he;obtain ⟨i,hi,rfl⟩:=he;exact ⟨(hel i hi).2.2.1,(hel i hi).2.2.2⟩
end
end Go.Proofs.YtmeodbjlmjpnbaaGreat
namespace Go.Proofs.YtmeodbjlmjpnbaaGreat
open Go.ChangeShapes Go.WideShapes Go.ChangeAt Go.RowKit Go.Deep Go.Joins
section
variable {H:Type}{enc:TypeId×Value→H}{P:Program}{w:World}{base:Nat}{held:Bool}
end
end Go.Proofs.YtmeodbjlmjpnbaaGreat
namespace Go.Proofs.YtmeodbjlmjpnbaaGreat
open Go.Sort Go.RowKit
theorem Fh (p q r s:Int)(w:World):Calls Tryz.prog 53 #[.agg #[.int .i64 p,.int .i64 q],.agg #[.int .i64 r,.int .i64 s]] w fun e w' =>
  e=.returned (.bool (BB p q r s)) ∧ ∃k os,w'=grow (w.drewN k) os:=by
 by_cases h:p=r
 ·subst h;have hv:BB p q p s=decide (q<s):=by simp [BB]
  rw [hv];clear hv;go_enter Tryz.func53,Tryz.ntmps53
  go_wp2
  go_ret
  exact ⟨rfl,0,_,by rw [alloc_eq_grow,alloc_eq_grow,grow_grow];rfl⟩
 ·have hv:BB p q r s=decide (p<r):=by simp [BB,h]
  rw [hv];clear hv;have h1:(p != r)=true:=by simpa using h
  clear h;go_enter Tryz.func53,Tryz.ntmps53
  go_wp2
  go_ret
  exact ⟨rfl,0,_,by rw [alloc_eq_grow,alloc_eq_grow,grow_grow];rfl⟩
theorem qj (p q r s:Int)(w:World):Calls Tryz.prog 53 #[.agg #[.int .i64 p,.int .i64 q],.agg #[.int .i64 r,.int .i64 s]] w fun e w' =>
  e=.returned (.bool (BB p q r s))∧Below w.heap.size w w':=(Fh p q r s w).mono fun _ _ ⟨a,k,os,b⟩=>⟨a,by rw [b];exact below_grow w k os⟩
end Go.Proofs.YtmeodbjlmjpnbaaGreat
namespace Go.Proofs.YtmeodbjlmjpnbaaGreat
open Go.Sort Go.RowKit
abbrev Hw (b:Nat):Value := .pointer (some ⟨b,0,none⟩)
theorem zf (b off:Nat)(v d:Int)(w:World)(h:w.cell? ⟨b,off,none⟩=some (.int .i64 v))(hz:w.frozen? ⟨b,off,none⟩=false)(h0:0≤v+d)(h1:v+d<9223372036854775808):Calls Tryz.prog 100 #[.pointer (some ⟨b,off,none⟩),.int .i64 d] w fun e w' =>
  e=.returned (.int .i64 (v+d))∧w'=w.setCell ⟨b,off,none⟩ (.int .i64 (v+d)):=by
 have hs:(Op.intArith .add .i64 v d).run Tryz.prog w=.ok (.int .i64 (v+d)) w:=by
  simp [go_sem,IntKind.wrap_i64];omega
 have hl:=run_call_add (P:=Tryz.prog) Tryz.func129 (by kernel_rfl) (by kernel_rfl) (by kernel_rfl) .i64 (by kernel_rfl) h hz hs;clear hs h0 h1;go_enter Tryz.func100,Tryz.ntmps100
 go_wp2
 go_ret
 exact ⟨rfl,rfl⟩
theorem Cm {w w1:World}{b:Nat}{c m c' m' p q r s:Int}{t:TypeId}(hm:bn w b c m)(hb:But b ((w.alloc (.cells #[.int .i64 p,.int .i64 q] t)).alloc (.cells #[.int .i64 r,.int .i64 s] t)) w1)(_:bn w1 b c' m') :
  bn w1 w.heap.size p q∧bn w1 (w.heap.size+1) r s∧But b w w1:=by
 have hlt:=hm.2.2.2.2;obtain ⟨pa,pb,_⟩:=duo (w:=w) (p:=p) (q:=q) (r:=r) (s:=s) (t:=t) (Below.refl _ _);exact ⟨hb.pair pa (by omega),hb.pair pb (by omega),(((But.refl b w).alloc _).alloc _).trans hb⟩
theorem GV (b:Nat)(c m p q r s:Int)(w:World)(h:bn w b c m)(h0:0≤c)(h1:c<4611686018427387904):Calls Tryz.prog 140 #[Hw b,.agg #[.int .i64 p,.int .i64 q],.agg #[.int .i64 r,.int .i64 s]] w fun e w' =>
  e=.returned (.bool (BB p q r s))∧bn w' b (c+1) m∧But b w w':=by
 have H:=hdz h;have H0:=hdz h0;have H1:=hdz h1;clear h h0 h1;go_enter Tryz.func140,Tryz.ntmps140
 go_wp2_with fail
 ((with_reducible refine (zf b 0 c 1 _ (bn.c0 (((H.out).alloc _).alloc _)) (bn.z0 (((H.out).alloc _).alloc _)) (by have:=H0.out;omega) (by have:=H1.out;omega)).mono ?_);rintro e w1 ⟨rfl,hw1⟩);have hm1:bn w1 b (c+1) m:=by rw [hw1];exact (((H.out).alloc _).alloc _).set0 _
 have hb1:But b ((w.alloc (.cells #[.int .i64 p,.int .i64 q] 29)).alloc (.cells #[.int .i64 r,.int .i64 s] 29)) w1:=by rw [hw1];exact But.set _ _ _ _
 obtain ⟨⟨a0,a1, -, -, -⟩,⟨c0,c1, -, -, -⟩,hw⟩:=Cm H.out hb1 hm1;have HM:=hdz hm1;have HW:=hdz hw;clear hw1 hm1 hb1 hw H H0 H1;go_wp2_with fail
 ((with_reducible refine (qj _ _ _ _ _).mono ?_);rintro e w2 ⟨rfl,hb2⟩);clear a0 a1 c0 c1;go_wp2
 go_ret
 exact ⟨rfl,HM.out.below hb2 HM.out.2.2.2.2,HW.out.trans (But.aV hb2)⟩
theorem BH (p q r s:Int)(w:World):Calls Tryz.prog 140 #[.pointer none,.agg #[.int .i64 p,.int .i64 q],.agg #[.int .i64 r,.int .i64 s]] w fun e w' =>
  e=.returned (.bool (BB p q r s))∧Below w.heap.size w w':=by
 go_enter Tryz.func140,Tryz.ntmps140
 go_wp2_with fail
 ((with_reducible refine (qj _ _ _ _ _).mono ?_);rintro e w2 ⟨rfl,hb2⟩);obtain ⟨-, -,hw⟩:=duo hb2;have HW:=hdz hw;clear hb2 hw;go_wp2
 go_ret
 exact ⟨rfl,HW.out⟩
theorem Dj (n:Int)(w:World):Calls Tryz.prog 138 #[.pointer none,.int .i64 n] w fun e w'=>e=.returned (.tuple #[])∧w'=w:=by
 go_enter Tryz.func138,Tryz.ntmps138
 go_wp2_with fail
 first|go_end0|refine bodyPost_ret (results_none rfl _ _ _) rfl ?_
 exact ⟨rfl,rfl⟩
end Go.Proofs.YtmeodbjlmjpnbaaGreat
namespace Go.Proofs.YtmeodbjlmjpnbaaGreat
open Go.Sort Go.RowKit
end Go.Proofs.YtmeodbjlmjpnbaaGreat
namespace Go.Proofs.YtmeodbjlmjpnbaaGreat
open Go.Sort Go.RowKit
theorem lt_of_heap {W:World}{k:Nat}{o:Obj}(h:W.heap[k]?=some o):k<W.heap.size:=(Array.getElem?_eq_some_iff.1 h).1
abbrev el (x:Int×Int):Value := .agg #[.int .i64 x.1,.int .i64 x.2]
def bO (N:TypeId→Prop)(W W':World):Prop:=∀(k:Nat) (cs:Array Value) (t:TypeId),N t→W.heap[k]?=some (.cells cs t (0,0))→W'.heap[k]?=some (.cells cs t (0,0))
section
variable {N:TypeId→Prop}
theorem bO.refl (W:World):bO N W W:=fun _ _ _ _ h=>h
theorem bO.trans {U V W:World}(h:bO N U V)(h':bO N V W):bO N U W:=fun k cs t ht e=>h' k cs t ht (h k cs t ht e)
theorem bO.below {W W':World}(h:Below W.heap.size W W'):bO N W W':=fun k _ _ _ e=>(h.block k (lt_of_heap e)).trans e
theorem bO.grown {W W':World}{row:Option Nat}(hg:W.grownBy W' row)(hr:∀g,row=some g → ∀cs t,W.heap[g]?=some (.cells cs t (0,0)) → ¬N t):bO N W W' :=
 fun k cs t ht e=>(hg.block k (lt_of_heap e) (fun ek=>hr k ek.symm cs t e ht)).trans e
theorem bO.set {W:World}{g:Nat}{cs:Array Value}{t:TypeId}{z:Nat×Nat}(hg:W.heap[g]?=some (.cells cs t z))(ht:¬N t)(off:Nat)(v:Value):bO N W (W.setCell ⟨g,off,none⟩ v) :=
 fun k cs' t' ht' e=>(Below.heap_setCell W ⟨g,off,none⟩ v k (fun ek=>by subst ek;rw [hg]at e;cases e;exact ht ht')).trans e
end
abbrev aF (mo:Option Nat):Value := .pointer (mo.map fun b=>⟨b,0,none⟩)
def aW (W:World):Option Nat→Int→Int→Prop
 | none,_,_=>True
 | some b,c,m=>W.heap[b]?=some (.cells #[.int .i64 c,.int .i64 m] 89 (0,0))
structure Bt (mo:Option Nat)(w w':World):Prop where
 os:w'.os=w.os
 tape:w'.tape=w.tape
 output:w'.output=w.output
 size:w.heap.size≤w'.heap.size
 block:∀k,k<w.heap.size→mo≠some k→w'.heap[k]?=w.heap[k]?
section
variable {mo:Option Nat}{u v w w':World}
theorem Bt.refl (mo:Option Nat)(w:World):Bt mo w w:=⟨rfl,rfl,rfl,Nat.le_refl _,fun _ _ _=>rfl⟩
theorem Bt.trans (h:Bt mo u v)(k:Bt mo v w):Bt mo u w :=
 ⟨k.os.trans h.os,k.tape.trans h.tape,k.output.trans h.output,Nat.le_trans h.size k.size,fun i hi hb=>(k.block i (Nat.lt_of_lt_of_le hi h.size) hb).trans (h.block i hi hb)⟩
theorem Bt.aV (h:Below w.heap.size w w'):Bt mo w w':=⟨h.os,h.tape,h.output,h.size,fun k hk _=>h.block k hk⟩
theorem Bt.gK (h:Bt none w w'):Below w.heap.size w w':=⟨h.os,h.tape,h.output,h.size,fun k hk=>h.block k hk (by simp)⟩
theorem Bt.Gv {b:Nat}(h:But b w w'):Bt (some b) w w':=⟨h.os,h.tape,h.output,h.size,fun k hk hb=>h.block k hk (fun e=>hb (by rw [e]))⟩
theorem Bt.Ib {b:Nat}(h:Bt (some b) w w'):But b w w':=⟨h.os,h.tape,h.output,h.size,fun k hk hb=>h.block k hk (fun e=>hb (by injection e with e;exact e.symm))⟩
theorem Bt.alloc (h:Bt mo u w)(o:Obj):Bt mo u (w.alloc o):=h.trans (Bt.aV (bG o))
theorem Bt.drew (h:Bt mo u w):Bt mo u w.drew:=h.trans (Bt.aV ((Below.refl _ _).drew))
theorem Bt.below {B:Nat}(h:Bt mo w w')(hu:Below B u w)(hB:∀b,mo=some b→B≤b)(hw:B≤w.heap.size):Below B u w' :=
 hu.trans ⟨h.os,h.tape,h.output,h.size,fun k hk=>h.block k (Nat.lt_of_lt_of_le hk hw) (fun e=>by have:=hB k e;omega)⟩
theorem Bt.oG {N:TypeId→Prop}{c m:Int}(h:Bt mo w w')(hm:aW w mo c m)(hN:¬N 89):bO N w w':=fun k cs t ht e=>(h.block k (lt_of_heap e) (fun em=>by
 subst em;rw [show w.heap[k]?=_ from hm]at e
 cases e
 exact hN ht)).trans e
theorem Bt.cell (h:Bt mo w w'){a:Addr}{x:Value}(hc:w.cell? a=some x)(hm:∀b,mo=some b→a.block≠b):w'.cell? a=some x:=by
 have hl:a.block<w.heap.size:=by
  unfold World.cell? at hc
  cases hh:w.heap[a.block]? with
  | none=>rw [hh]at hc;cases hc
  | some o=>exact lt_of_heap hh
 rw [World.cell?_of_block (w:=w) (h.block a.block hl (fun e=>hm _ e rfl))];exact hc
theorem aW.stay {c m:Int}(h:aW w mo c m)(hb:Below w.heap.size w w'):aW w' mo c m:=by
 cases mo with
 | none=>trivial
 | some b=>exact (hb.block b (lt_of_heap h)).trans h
theorem aW.alloc {c m:Int}(h:aW w mo c m)(o:Obj):aW (w.alloc o) mo c m:=h.stay (bG o)
theorem aW.drew {c m:Int}(h:aW w mo c m):aW w.drew mo c m:=h.stay ((Below.refl _ _).drew)
theorem aW.lt {c m:Int}{b:Nat}(h:aW w (some b) c m):b<w.heap.size:=lt_of_heap h
theorem aW.ne {c m:Int}{b k:Nat}{cs:Array Value}{t:TypeId}{z:Nat×Nat}(h:aW w mo c m)(hk:w.heap[k]?=some (.cells cs t z))(ht:t≠89)(e:mo=some b):k≠b:=fun ek=>by
 subst e;subst ek;rw [show w.heap[k]?=_ from h]at hk
 cases hk
 exact ht rfl
theorem Bt.own (h:Bt mo u w){b:Nat}(hb:u.heap.size≤b)(j:Nat)(v:Value):Bt mo u (w.setCell ⟨b,j,none⟩ v) :=
 ⟨h.os,h.tape,h.output,by simpa [World.setCell] using h.size,fun k hk hm=>(Below.heap_setCell w ⟨b,j,none⟩ v k (by show k≠b;omega)).trans (h.block k hk hm)⟩
theorem aW.other {c m:Int}{b:Nat}{cs:Array Value}{t:TypeId}{z:Nat×Nat}(h:aW w mo c m)(hb:w.heap[b]?=some (.cells cs t z))(ht:t≠89)(j:Nat)(v:Value):aW (w.setCell ⟨b,j,none⟩ v) mo c m:=by
 cases mo with
 | none=>trivial
 | some k =>
  have hne:=h.ne hb ht rfl;exact (Below.heap_setCell w ⟨b,j,none⟩ v k (fun e=>hne e.symm)).trans h
end
theorem heap_put {w:World}{b j:Nat}{cs:Array Value}{t:TypeId}{z:Nat×Nat}(h:w.heap[b]?=some (.cells cs t z))(u:Value):(w.setCell ⟨b,j,none⟩ u).heap[b]?=some (.cells (cs.setIfInBounds j u) t z):=by
 obtain ⟨hlt,hk⟩:=Array.getElem?_eq_some_iff.1 h;show (w.heap.modify b _)[b]?=_;rw [Array.getElem?_eq_getElem (by rw [Array.size_modify];exact hlt),Array.getElem_modify_self,hk];rfl
theorem aJ {W:World}{o:Obj}{n:Nat}(h:n=W.heap.size):(W.alloc o).heap[n]?=some o:=by rw [h];exact heap_alloc_new W o
section
variable {w:World}{b:Nat}{c m:Int}
theorem aW.pair (h:aW w (some b) c m):bn w b c m:=by
 have h':w.heap[b]?=_:=h;exact ⟨by simp [World.cell?,h'],by simp [World.cell?,h'],by simp [World.frozen?,h'],by simp [World.frozen?,h'],lt_of_heap h'⟩
theorem aW.set0 (h:aW w (some b) c m)(c':Int):aW (w.setCell ⟨b,0,none⟩ (.int .i64 c')) (some b) c' m:=heap_put (show w.heap[b]?=_ from h) _
theorem aW.set1 (h:aW w (some b) c m)(m':Int):aW (w.setCell ⟨b,1,none⟩ (.int .i64 m')) (some b) c m':=heap_put (show w.heap[b]?=_ from h) _
end
theorem BV (b:Nat)(c m p q r s:Int)(w:World)(h:aW w (some b) c m)(h0:0≤c)(h1:c<4611686018427387904):Calls Tryz.prog 140 #[Hw b,.agg #[.int .i64 p,.int .i64 q],.agg #[.int .i64 r,.int .i64 s]] w fun e w' =>
  e=.returned (.bool (BB p q r s))∧aW w' (some b) (c+1) m∧But b w w':=by
 have H:=hdz h;have H0:=hdz h0;have H1:=hdz h1;clear h h0 h1;go_enter Tryz.func140,Tryz.ntmps140
 go_wp2_with fail
 ((with_reducible refine (zf b 0 c 1 _ (bn.c0 (((H.out).alloc _).alloc _).pair) (bn.z0 (((H.out).alloc _).alloc _).pair) (by have:=H0.out;omega) (by have:=H1.out;omega)).mono ?_);rintro e w1 ⟨rfl,hw1⟩);have hm1:aW w1 (some b) (c+1) m:=by rw [hw1];exact (((H.out).alloc _).alloc _).set0 _
 have hb1:But b ((w.alloc (.cells #[.int .i64 p,.int .i64 q] 29)).alloc (.cells #[.int .i64 r,.int .i64 s] 29)) w1:=by rw [hw1];exact But.set _ _ _ _
 obtain ⟨⟨a0,a1, -, -, -⟩,⟨c0,c1, -, -, -⟩,hw⟩:=Cm H.out.pair hb1 hm1.pair;have HM:=hdz hm1;have HW:=hdz hw;clear hw1 hm1 hb1 hw H H0 H1;go_wp2_with fail
 ((with_reducible refine (qj _ _ _ _ _).mono ?_);rintro e w2 ⟨rfl,hb2⟩);clear a0 a1 c0 c1;go_wp2
 go_ret
 exact ⟨rfl,HM.out.stay hb2,HW.out.trans (But.aV hb2)⟩
theorem lM (mo:Option Nat)(c m:Int)(x y:Int×Int)(w:World)(h:aW w mo c m)(h0:0≤c)(h1:c<4611686018427387904):Calls Tryz.prog 140 #[aF mo,el x,el y] w fun e w' =>
  e=.returned (.bool (dH x y))∧aW w' mo (c+1) m∧Bt mo w w':=by
 cases mo with
 | none=>exact (BH x.1 x.2 y.1 y.2 w).mono fun e w' ⟨he,hb⟩=>⟨he,trivial,Bt.aV hb⟩
 | some b=>exact (BV b c m x.1 x.2 y.1 y.2 w h h0 h1).mono fun e w' ⟨he,hm,hb⟩=>⟨he,hm,Bt.Gv hb⟩
theorem BJ (b:Nat)(c m:Int)(w:World)(h:aW w (some b) c m)(h0:0≤m)(h1:m<4611686018427387904):Calls Tryz.prog 138 #[Hw b,.int .i64 1] w fun e w' =>
  e=.returned (.tuple #[])∧aW w' (some b) c (m+1)∧But b w w':=by
 have H:=hdz h;have H0:=hdz h0;have H1:=hdz h1;clear h h0 h1;go_enter Tryz.func138,Tryz.ntmps138
 go_wp2_with fail
 ((with_reducible refine (zf b 1 m 1 _ H.out.pair.c1 H.out.pair.z1 (by have:=H0.out;omega) (by have:=H1.out;omega)).mono ?_);rintro e w1 ⟨rfl,hw1⟩);have hm1:aW w1 (some b) c (m+1):=by rw [hw1];exact H.out.set1 _
 have hb1:But b w w1:=by rw [hw1];exact But.set _ _ _ _
 have HM:=hdz hm1;have HW:=hdz hb1;clear hw1 hm1 hb1 H H0 H1;go_wp2
 first|go_end0|refine bodyPost_ret (results_none rfl _ _ _) rfl ?_
 exact ⟨rfl,HM.out,HW.out⟩
theorem mZ (mo:Option Nat)(c m:Int)(w:World)(h:aW w mo c m)(h0:0≤m)(h1:m<4611686018427387904):Calls Tryz.prog 138 #[aF mo,.int .i64 1] w fun e w' =>
  e=.returned (.tuple #[])∧aW w' mo c (m+1)∧Bt mo w w':=by
 cases mo with
 | none=>exact (Dj 1 w).mono fun e w' ⟨he,hb⟩=>⟨he,trivial,by rw [hb];exact Bt.refl _ _⟩
 | some b=>exact (BJ b c m w h h0 h1).mono fun e w' ⟨he,hm,hb⟩=>⟨he,hm,Bt.Gv hb⟩
structure dL (N:TypeId→Prop)(mo:Option Nat)(w:World)(c m:Int)(w':World):Prop where
 bt:Bt mo w w'
 mt:aW w' mo c m
 kp:bO N w w'
section
variable {N:TypeId→Prop}{mo:Option Nat}{w w' w'':World}{c m c' m':Int}
theorem dL.refl (h:aW w mo c m):dL N mo w c m w:=⟨Bt.refl _ _,h,bO.refl _⟩
theorem dL.stay (h:dL N mo w c m w')(hb:Below w'.heap.size w' w''):dL N mo w c m w'':=⟨h.bt.trans (Bt.aV hb),h.mt.stay hb,h.kp.trans (bO.below hb)⟩
theorem dL.alloc (h:dL N mo w c m w')(o:Obj):dL N mo w c m (w'.alloc o):=h.stay (bG o)
theorem dL.drew (h:dL N mo w c m w'):dL N mo w c m w'.drew:=h.stay ((Below.refl _ _).drew)
theorem dL.turn (h:dL N mo w c m w')(hm:aW w'' mo c' m')(hb:Bt mo w' w'')(hN:¬N 89):dL N mo w c' m' w'':=⟨h.bt.trans hb,hm,h.kp.trans (hb.oG h.mt hN)⟩
theorem dL.put (h:dL N mo w c m w'){b:Nat}{cs:Array Value}{t:TypeId}{z:Nat×Nat}(hb:w'.heap[b]?=some (.cells cs t z))(hN:¬N t)(ht:t≠89)(hw:w.heap.size≤b)(j:Nat)(v:Value):dL N mo w c m (w'.setCell ⟨b,j,none⟩ v) :=
 ⟨h.bt.own hw j v,h.mt.other hb ht j v,h.kp.trans (bO.set hb hN j v)⟩
theorem Bt.row {b:Nat}{cs:Array Value}{t:TypeId}{z:Nat×Nat}(h:Bt mo w w')(hm:aW w mo c m)(hb:w.heap[b]?=some (.cells cs t z))(ht:t≠89):w'.heap[b]?=some (.cells cs t z) :=
 (h.block b (lt_of_heap hb) (fun e=>hm.ne hb ht e rfl)).trans hb
end
section
variable {w w' w'':World}{mb:Nat}{c m c' m':Int}
end
end Go.Proofs.YtmeodbjlmjpnbaaGreat
namespace Go.Proofs.YtmeodbjlmjpnbaaGreat
open Go.Sort Go.RowKit
theorem Gr:(Tryz.prog.info? 29).map (fun i=>(i.zero,i.size,i.bytes))=some (some (.agg #[.int .i64 0,.int .i64 0]),2,16):=by kernel_rfl
def Own (w:World)(base:Nat)(v:Value)(xs:List (Int×Int)):Prop:=w.ownsRow base 29 2 v xs.length (cellsE xs)
theorem Own.none (w:World)(base:Nat):Own w base (.slice Option.none 0 0) []:=World.ownsRow_nil w base _ _
theorem Own.form {w:World}{base:Nat}{v:Value}{xs:List (Int×Int)}(h:Own w base v xs) :
  ∃A c,v=.slice A xs.length c∧Row w A xs∧xs.length≤c∧c≤9223372036854775807∧(A=Option.none→c=0):=by
 have h0:=h;rcases h.2 with ⟨rfl,hn⟩|⟨g,cap,cur,rfl,hb,hg,hc,hm,_⟩
 ·obtain rfl:xs=[]:=List.eq_nil_of_length_eq_zero hn;exact ⟨Option.none,0,rfl,Row.nil _ _,Nat.le_refl _,by omega,fun _=>rfl⟩
 ·refine ⟨_,cap,rfl,fun _=>⟨g,0,rfl,fun j u hu=>?_⟩,hc,by unfold maxLen at hm;omega,fun e=>by cases e⟩
  have:=h0.cells (g:=g) rfl j u hu;rwa [add_plain]at this
theorem wK (w:World)(base:Nat)(v:Value)(xs ys:List (Int×Int))(A:Option Addr)(c:Nat)(hown:Own w base v xs)(hr:Row w A ys)(hA:A=Option.none→c=0)(hlen:xs.length+ys.length<2147483648)(hb:base≤w.heap.size) :
  ∃v' w',(Builtin.append_ #[22, 22] 22 #[v,.slice A ys.length c]).run Tryz.prog w=.ok v' w'∧Own w' base v' (xs++ys)∧w.grownBy w' v.ownBlock:=by
 obtain ⟨i0,hi,hz0,hz1,hz2⟩:=info_parts Gr
 have step:∀a:Addr,(∀j u,(cellsE ys)[j]?=some u→w.cell? (a.add j)=some u) → ∃v' w',(Builtin.append_ #[22, 22] 22 #[v,.slice (some a) ys.length c]).run Tryz.prog w=.ok v' w'∧Own w' base v' (xs++ys)∧w.grownBy w' v.ownBlock:=by
  intro a hc;obtain ⟨v',w',h1,h2,h3,_⟩:=run_append_own_at (P:=Tryz.prog) w base 22 22 29 i0 _ 2 16 Tryz.underlying22 hi hz0 hz1 hz2 rfl (by omega) v xs.length (cellsE xs) hown a ys.length c (cellsE ys) (oJ ys) hc (xR ys) (by unfold maxLen;omega) (by omega) hb;refine ⟨v',w',h1,?_,h3⟩;unfold Own;rw [r9,List.length_append];exact h2
 by_cases h0:0<ys.length
 ·obtain ⟨b,o,rfl,hc⟩:=hr h0;exact step _ (fun j u hu=>by rw [add_plain];exact hc j u hu)
 ·obtain rfl:ys=[]:=List.eq_nil_of_length_eq_zero (by omega)
  cases A with
  | some a=>exact step a (fun j u hu=>by simp [cellsE]at hu)
  | none =>
   obtain rfl:=hA rfl;have hrun:=run_append_owned_none (P:=Tryz.prog) (w:=w) base 22 22 29 i0 2 Tryz.underlying22 hi v xs.length (cellsE xs) hown;exact ⟨v,w,hrun,by rw [List.append_nil];exact hown,World.grownBy.refl w _⟩
theorem wpList_append_run {P:Program}{w:World}{ops:Array Oper}{rest:List Oper}{o:Oper}{a:Act}{Q:Exit→Act→World→Prop}(hgd:o.guard=Option.none)(s x:Operand)(t:TypeId)
  (ho:o.op=.call { callee := .builtin .append,args:=#[s,x],argTypes:=#[t,t] }) (v xv v':Value) (w':World) (hs:a.eval s=v) (hx:a.eval x=xv)
  (hrun:(Builtin.append_ #[t,t] o.type #[v,xv]).run P w=.ok v' w') (h:wpList P ops Q rest (a.put o.dst v') w'):wpList P ops Q (o::rest) a w:=by
 refine wpList_plain hgd fun K hK=>?_;unfold Oper.wp;simp [execOp,ho,resolve,invoke,builtin,hs,hx,hrun,Result.andThen];exact hK _ _ h
theorem Own.block {w:World}{base:Nat}{v:Value}{xs:List (Int×Int)}(h:Own w base v xs):∀g,v.ownBlock=some g→base≤g:=fun g hg=>(World.ownsRow.lt h g hg).1
theorem Own.below {w w':World}{base:Nat}{v:Value}{xs:List (Int×Int)}(h:Own w base v xs)(hb:Below w.heap.size w w'):Own w' base v xs:=by
 refine World.ownsRow.kept h (row:=Option.none) ⟨hb.os,hb.tape,hb.output,hb.size,fun k hk _=>hb.block k hk⟩ ?_
 cases v.ownBlock<;>simp
end Go.Proofs.YtmeodbjlmjpnbaaGreat
namespace Go.Proofs.YtmeodbjlmjpnbaaGreat
open Go.Sort Go.RowKit
theorem aH {W:World}{b k:Nat}(j:Nat)(v:Value)(h:k≠b):(W.setCell ⟨b,j,none⟩ v).heap[k]?=W.heap[k]?:=Below.heap_setCell W ⟨b,j,none⟩ v k h
section
variable {W W':World}{mo:Option Nat}{c m:Int}{b:Nat}{t:TypeId}{x y:Value}
theorem aB.bt (h:aB W b t x y)(hb:Bt mo W W')(hm:aW W mo c m)(ht:t≠89):aB W' b t x y:=hb.row hm h ht
theorem dL.eY {N:TypeId→Prop}{w:World}(k:dL N mo w c m W)(h:aB W b t x y)(ht:¬N t)(hmt:t≠89)(hw:w.heap.size≤b)(u v:Value):dL N mo w c m ((W.setCell ⟨b,0,none⟩ u).setCell ⟨b,1,none⟩ v) :=
 (k.put h ht hmt hw 0 u).put (h.set0 u) ht hmt hw 1 v
end
theorem Own.kind {w:World}{base:Nat}{v:Value}{xs:List (Int×Int)}(h:Own w base v xs):∀k,v.ownBlock=some k→base≤k∧k<w.heap.size ∧ ∃cs,w.heap[k]?=some (.cells cs 29 (0,0)):=by
 intro k hk;rcases h.2 with ⟨rfl, -⟩|⟨g,cap,cur,rfl,hb,hg, -⟩
 ·cases hk
 ·cases hk
  exact ⟨hb,lt_of_heap hg,cur,hg⟩
theorem Own.lower {w:World}{base base':Nat}{v:Value}{xs:List (Int×Int)}(h:Own w base v xs)(hb:base'≤base):Own w base' v xs :=
 ⟨h.1,h.2.imp id (fun ⟨g,cap,cur,a,b,r⟩=>⟨g,cap,cur,a,Nat.le_trans hb b,r⟩)⟩
theorem Own.other {w:World}{base:Nat}{v:Value}{xs:List (Int×Int)}(h:Own w base v xs){b:Nat}(hb:b<base)(j:Nat)(u:Value):Own (w.setCell ⟨b,j,Option.none⟩ u) base v xs:=by
 refine ⟨h.1,?_⟩;rcases h.2 with hn|⟨g,cap,cur,rfl,hg1,hg,rest⟩
 ·exact .inl hn
 ·exact .inr ⟨g,cap,cur,rfl,hg1,(aH _ _ (by omega)).trans hg,rest⟩
end Go.Proofs.YtmeodbjlmjpnbaaGreat
namespace Go.Proofs.YtmeodbjlmjpnbaaGreat
open Go.Sort Go.RowKit
theorem zI (a b:List UInt8):(⟨a.toArray⟩:ByteArray)++⟨b.toArray⟩=⟨(a++b).toArray⟩:=by
 apply ByteArray.ext
 simp
def textOf (p q:Int):List UInt8:=Lib.itoa p++(58::Lib.itoa q)
def iw (v:Int):Prop := -9223372036854775808≤v∧v≤9223372036854775807
end Go.Proofs.YtmeodbjlmjpnbaaGreat
namespace Go.Proofs.YtmeodbjlmjpnbaaGreat
open Go.Sort Go.RowKit
def fits (l:List (Int×Int)):Prop:=∀e∈l,iw e.1∧iw e.2
theorem fits.append {a b:List (Int×Int)}(h:fits (a++b)):fits a∧fits b:=⟨fun e he=>h e (by simp [he]),fun e he=>h e (by simp [he])⟩
theorem fits.join {a b:List (Int×Int)}(h:fits a)(k:fits b):fits (a++b):=fun e he=>by rcases List.mem_append.1 he with he|he;exact h e he;exact k e he
theorem fits.cons {x:Int×Int}{b:List (Int×Int)}(h:fits (x::b)):(iw x.1∧iw x.2)∧fits b:=⟨h x (by simp),fun e he=>h e (by simp [he])⟩
theorem fits.more {x:Int×Int}{b:List (Int×Int)}(h:iw x.1∧iw x.2)(k:fits b):fits (x::b):=fun e he=>by rcases List.mem_cons.1 he with rfl|he;exact h;exact k e he
theorem fits.perm {a b:List (Int×Int)}(h:fits a)(p:a.Perm b):fits b:=fun e he=>h e (p.symm.subset he)
theorem fits.nil:fits []:=fun _ h=>by cases h
theorem jV (p q:Int)(hp:iw p)(hq:iw q):(textOf p q).length≤43:=by
 have h1:=Lib.itoa_length_le p hp.1 hp.2;have h2:=Lib.itoa_length_le q hq.1 hq.2;simp only [textOf,List.length_append,List.length_cons];omega
theorem jv (xs:List (Int×Int)):ordered (dw xs)∧(dw xs).Perm xs:=by
 obtain ⟨h1,h2⟩:=DZ xs [] (by unfold ordered;simp);have h3:(xs.foldl AB []).Perm xs:=by simpa using h2
 rw [xP xs _ h3 h1];exact ⟨h1,h3⟩
theorem kG (xs:List (Int×Int)):(dw xs).length=xs.length:=(jv xs).2.length_eq
theorem bX {xs ys:List (Int×Int)}(h:xs.Perm ys):dw xs=dw ys:=xP xs _ ((jv ys).2.trans h.symm) (jv ys).1
theorem vZ {xs:List (Int×Int)}(h:ordered xs):dw xs=xs:=xP xs xs (List.Perm.refl _) h
theorem kr:dw []=[]:=vZ (by unfold ordered;simp)
theorem pU {x:Int×Int}{xs:List (Int×Int)}(h:∀e∈xs,dH e x=false):dw (x::xs)=x::dw xs:=by
 refine xP _ _ ((jv xs).2.cons x) ?_;rw [List.pairwise_cons];exact ⟨fun e he=>by rw [h e ((jv xs).2.subset he)];rfl,(jv xs).1⟩
end Go.Proofs.YtmeodbjlmjpnbaaGreat
namespace Go.Proofs.YtmeodbjlmjpnbaaGreat
open Go.Sort Go.RowKit
def FC (xs ys:List (Int×Int))(w:World)(i:Value)(wr:World):Prop :=
 ∃k:Nat,k≤xs.length∧i=.int .i64 k∧xs.take k=ys.take k ∧ ∃p:Regrown,wr=grow (redrawn w p.d) p.os
theorem AJ (A B:Option Addr)(na nb ca cb:Nat)(w:World)(h:na≠nb) :
  Calls Tryz.prog 15 #[.slice A na ca,.slice B nb cb] w fun e w'=>e=.returned (.bool false)∧Below w.heap.size w w':=by
 have h1:((na:Int) != (nb:Int))=true:=by rw [bne_iff_ne];omega
 go_enter Tryz.func15,Tryz.ntmps15
 go_wp2_with fail
 go_ret
 exact ⟨rfl,Below.refl _ _⟩
theorem CB (A B:Option Addr)(ca cb:Nat)(w:World) :
  Calls Tryz.prog 15 #[.slice A 0 ca,.slice B 0 cb] w fun e w'=>e=.returned (.bool true)∧Below w.heap.size w w':=by
 go_enter Tryz.func15,Tryz.ntmps15
 go_wp2_with fail
 refine wp_loop_rounds 1 ?_;rw [rounds_succ];go_wp2_with fail
 go_ret
 exact ⟨rfl,Below.refl _ _⟩
theorem DJ {xs ys:List (Int×Int)}{k:Nat}(h:xs.take k=ys.take k)(h1:k<xs.length)(h2:k<ys.length)(e:xs[k]=ys[k]):xs.take (k+1)=ys.take (k+1):=by
 rw [List.take_succ_eq_append_getElem h1,List.take_succ_eq_append_getElem h2,h,e]
theorem Df (b1 o1 b2 o2:Nat)(xs ys:List (Int×Int))(n ca cb:Nat)(w:World)(hx:n=xs.length)(hy:n=ys.length)(hn:n<2147483648)
  (hA:∀j v,(cellsE xs)[j]?=some v→w.cell? ⟨b1,o1+j,none⟩=some v) (hB:∀j v,(cellsE ys)[j]?=some v→w.cell? ⟨b2,o2+j,none⟩=some v) :
  Calls Tryz.prog 15 #[.slice (some ⟨b1,o1,none⟩) n ca,.slice (some ⟨b2,o2,none⟩) n cb] w fun e w'=>e=.returned (.bool (decide (xs=ys)))∧Below w.heap.size w w':=by
 have HA:=hdz hA;have HB:=hdz hB;have HX:=hdz hx;have HY:=hdz hy;clear hA hB hx hy;go_enter Tryz.func15,Tryz.ntmps15
 go_wp2_with fail
 go_loopw [5] (fun i wr=>FC xs ys w i wr) (fun i _=>n - (intOf i).toNat)
 case atStart=>exact ⟨0,Nat.zero_le _,rfl,rfl,⟨w.drawn,#[]⟩,xD w⟩
 case round =>
  obtain ⟨k,hkk,rfl,ht,⟨d,os⟩,rfl⟩:=hrel;have hx:=HX.out;have hy:=HY.out;by_cases hlt:k<n
  ·have hk1:k<xs.length:=by omega
   have hk2:k<ys.length:=by omega
   have e1:=qm HA.out k hk1;have e2:=qm HB.out k hk2;have hmore:=fun (e:xs[k]=ys[k])=>DJ ht hk1 hk2 e
   have hstop:¬xs[k]=ys[k]→decide (xs=ys)=false:=fun hne=>by
    rw [decide_eq_false_iff_not];intro e;subst e;exact hne rfl
   generalize xs[k]=x at *;generalize ys[k]=y at *;have kx0:=fun d os=>cell_regrown e1.1 d os;have kx1:=fun d os=>cell_regrown e1.2 d os;have ky0:=fun d os=>cell_regrown e2.1 d os;have ky1:=fun d os=>cell_regrown e2.2 d os;have HM:=hdz hmore;have HS:=hdz hstop;have HK:=hdz (af hkk hx);clear e1 e2 hmore hstop ht hx hy hkk hk1 hk2;obtain ⟨x1,x2⟩:=x;obtain ⟨y1,y2⟩:=y;simp only at kx0 kx1 ky0 ky1;by_cases ee:x1=y1∧x2=y2
   ·obtain ⟨rfl,rfl⟩:=ee;have HT:=hdz (HM.out rfl);clear HM HS;go_wp2_with fail
    refine kg (by kernel_rfl) (by kernel_rfl) ?_;repeat (go_big_quiet_step (fail))
    refine wpQuiet_nil ?_;intro _ hw';obtain ⟨⟨dq,osq⟩,hw''⟩:=hw';subst hw'';go_wp2_with fail
    go_roundw
    case rel=>exact ⟨k+1,by have:=HK.out;omega,by go_num,HT.out,⟨dq,osq⟩,rfl⟩
    case measure=>simp [intOf];omega
   ·have hf:=HS.out (fun e=>ee (by injection e with a b;exact ⟨a,b⟩));have HF:=hdz hf;clear hf;by_cases e1:x1=y1
    ·have e2:¬x2=y2:=fun h=>ee ⟨e1,h⟩;subst e1;clear ee HS HM;go_wp2_with fail
     refine kg (by kernel_rfl) (by kernel_rfl) ?_;repeat (go_big_quiet_step (fail))
     refine wpQuiet_nil ?_;intro _ hw';obtain ⟨⟨dq,osq⟩,hw''⟩:=hw';subst hw'';go_wp2_with fail
     go_ret
     exact ⟨(congrArg (fun b=>Ending.returned (.bool b)) HF.out).symm,below_regrown w _ _⟩
    ·clear ee HS HM;go_wp2_with fail
     refine kg (by kernel_rfl) (by kernel_rfl) ?_;repeat (go_big_quiet_step (fail))
     refine wpQuiet_nil ?_;intro _ hw';obtain ⟨⟨dq,osq⟩,hw''⟩:=hw';subst hw'';go_wp2_with fail
     go_ret
     exact ⟨(congrArg (fun b=>Ending.returned (.bool b)) HF.out).symm,below_regrown w _ _⟩
  ·have hk2:k=xs.length:=by omega
   have hxy:decide (xs=ys)=true:=by
    rw [decide_eq_true_eq];rw [hk2,List.take_length,List.take_of_length_le (by omega)]at ht;exact ht
   have HF:=hdz hxy;clear ht hxy hx hy hkk hk2;go_wp2_with fail
   go_ret
   exact ⟨(congrArg (fun b=>Ending.returned (.bool b)) HF.out).symm,below_regrown w _ _⟩
theorem zP (A B:Option Addr)(xs ys:List (Int×Int))(ca cb:Nat)(w:World)(hx:xs.length<2147483648)(hA:Row w A xs)(hB:Row w B ys) :
  Calls Tryz.prog 15 #[.slice A xs.length ca,.slice B ys.length cb] w fun e w'=>e=.returned (.bool (decide (xs=ys)))∧Below w.heap.size w w':=by
 by_cases hl:xs.length=ys.length
 ·by_cases h0:xs.length=0
  ·have ex:xs=[]:=List.eq_nil_of_length_eq_zero h0;have ey:ys=[]:=List.eq_nil_of_length_eq_zero (by omega);subst ex;subst ey;exact CB A B ca cb w
  ·obtain ⟨b1,o1,rfl,h1⟩:=hA (by omega);obtain ⟨b2,o2,rfl,h2⟩:=hB (by omega);have h:=Df b1 o1 b2 o2 xs ys xs.length ca cb w rfl hl hx h1 h2;rw [←hl];exact h
 ·have hf:decide (xs=ys)=false:=by
   rw [decide_eq_false_iff_not];intro e;exact hl (by rw [e])
  rw [hf];exact AJ A B _ _ ca cb w hl
end Go.Proofs.YtmeodbjlmjpnbaaGreat
namespace Go.Proofs.YtmeodbjlmjpnbaaGreat
open Go.Sort Go.RowKit
end Go.Proofs.YtmeodbjlmjpnbaaGreat
namespace Go.Proofs.YtmeodbjlmjpnbaaGreat
open Go.Sort Go.RowKit
def Br (l:List (Int×Int))(w:World)(e:Ending)(w':World):Prop :=
 ∃A c,e=.returned (.slice A l.length c)∧Row w' A (dw l)∧Below w.heap.size w w'∧l.length≤c∧c≤9223372036854775807
theorem FX (A:Option Addr)(c:Nat)(w:World):Calls Tryz.prog 19 #[.slice A 0 c] w (Br [] w):=by
 go_enter Tryz.func19,Tryz.ntmps19
 go_wp2_with fail
 refine wp_loop_rounds 1 ?_;rw [rounds_succ];go_wp2_with fail
 go_ret
 exact ⟨none,0,rfl,by rw [xP [] [] (List.Perm.refl _) (by simp)];exact Row.nil _ _,Below.refl _ _,Nat.le_refl _,by omega⟩
end Go.Proofs.YtmeodbjlmjpnbaaGreat
namespace Go.Proofs.YtmeodbjlmjpnbaaGreat
open Go.Sort Go.RowKit
def Rw (W:World)(v:Value)(xs:List (Int×Int)):Prop :=
 (v=.slice none 0 0∧xs=[]) ∨ ∃(b o c:Nat) (cs:Array Value),v=.slice (some ⟨b,o,none⟩) xs.length c∧xs.length≤c∧c≤9223372036854775807∧W.heap[b]?=some (.cells cs 29 (0,0)) ∧ ∀j u,(cellsE xs)[j]?=some u→cs[o+j]?=some u
section
variable {W W':World}{v:Value}{xs:List (Int×Int)}{mo:Option Nat}{c m:Int}
theorem Rw.none (W:World):Rw W (.slice Option.none 0 0) [] := .inl ⟨rfl,rfl⟩
theorem Rw.bt (h:Rw W v xs)(hb:Bt mo W W')(hm:aW W mo c m):Rw W' v xs:=by
 rcases h with h|⟨b,o,k,cs,hv,h1,h2,h3,h4⟩
 ·exact .inl h
 ·exact .inr ⟨b,o,k,cs,hv,h1,h2,hb.row hm h3 (by decide),h4⟩
theorem Rw.stay (h:Rw W v xs)(hb:Below W.heap.size W W'):Rw W' v xs:=h.bt (mo:=Option.none) (c:=0) (m:=0) (Bt.aV hb) trivial
theorem Own.rw {base:Nat}(h:Own W base v xs):Rw W v xs:=by
 have h0:=h;rcases h.2 with ⟨rfl,hn⟩|⟨g,cap,cur,rfl,hb,hg,hc,hm,hs,ht⟩
 ·exact .inl ⟨rfl,List.eq_nil_of_length_eq_zero hn⟩
 ·refine .inr ⟨g,0,cap,cur,rfl,hc,by unfold maxLen at hm;omega,hg,fun j u hu=>?_⟩;rw [←ht,List.getElem?_take]at hu;split at hu
  ·rw [Nat.zero_add];simpa using hu
  ·cases hu
theorem Rw.form (h:Rw W v xs):∃(A:Option Addr) (k:Nat),v=.slice A xs.length k∧Row W A xs∧xs.length≤k∧k≤9223372036854775807∧(A=Option.none→k=0):=by
 rcases h with ⟨rfl,rfl⟩|⟨b,o,k,cs,rfl,h1,h2,h3,h4⟩
 ·exact ⟨Option.none,0,rfl,Row.nil _ _,Nat.le_refl _,by omega,fun _=>rfl⟩
 ·refine ⟨_,k,rfl,fun _=>⟨b,o,rfl,fun j u hu=>?_⟩,h1,h2,fun e=>by cases e⟩
  have:=h4 j u hu;simp [World.cell?,h3,this]
end
end Go.Proofs.YtmeodbjlmjpnbaaGreat
namespace Go.Proofs.YtmeodbjlmjpnbaaGreat
open Go.Sort Go.RowKit
def hd (l:List (Int×Int)):Int×Int:=l.headD (0,0)
theorem Ia (x:Int×Int)(l:List (Int×Int)):dw (x::dw l)=dw (x::l):=bX ((jv l).2.cons x)
theorem Ht (a b:List (Int×Int)):dw (dw a++dw b)=dw (a++b):=bX ((jv a).2.append (jv b).2)
theorem one_cell {W:World}{a:Nat}{u:Value}{t:TypeId}(h:W.heap[a]?=some (.cells #[u] t (0,0))):W.cell? ⟨a,0,none⟩=some u:=by simp [World.cell?,h]
theorem iQ {W:World}{a:Nat}{u:Value}{t:TypeId}(h:W.heap[a]?=some (.cells #[u] t (0,0))):W.frozen? ⟨a,0,none⟩=false:=by simp [World.frozen?,h]
theorem gD {W:World}{a:Nat}{u:Value}{t:TypeId}(h:W.heap[a]?=some (.cells #[u] t (0,0)))(v:Value):(W.setCell ⟨a,0,none⟩ v).heap[a]?=some (.cells #[v] t (0,0)):=by
 obtain ⟨hlt,hk⟩:=Array.getElem?_eq_some_iff.1 h;show (W.heap.modify a _)[a]?=_;rw [Array.getElem?_eq_getElem (by rw [Array.size_modify];exact hlt),Array.getElem_modify_self,hk];rfl
def NH (t:TypeId):Prop:=t∈[272, 244, 295, 281, 316, 314, 291, 249, 322, 332, 334, 259, 318]
instance (t:TypeId):Decidable (NH t):=inferInstanceAs (Decidable (t∈_))
structure iT (k:Int)(T:TypeId)(fI fM fN fP fS:FuncId)(At:World→Value→List (Int×Int)→Prop):Prop where
 mN:∀(n:Nat) (v:Value) (w:World),(method (n+1) T v "slagheap/heap.min").run Tryz.prog w=.ok (fN,v) w
 mP:∀(n:Nat) (v:Value) (w:World),(method (n+1) T v "slagheap/heap.pop").run Tryz.prog w=.ok (fP,v) w
 mS:∀(n:Nat) (v:Value) (w:World),(method (n+1) T v "slagheap/heap.size").run Tryz.prog w=.ok (fS,v) w
 cN:∀(args:Array Value) (w:World),(callFunc fN args).run Tryz.prog w=.ok (.enter fN args) w
 cP:∀(args:Array Value) (w:World),(callFunc fP args).run Tryz.prog w=.ok (.enter fP args) w
 cS:∀(args:Array Value) (w:World),(callFunc fS args).run Tryz.prog w=.ok (.enter fS args) w
 stay:∀{W W':World} {v:Value} {l:List (Int×Int)},At W v l→Below W.heap.size W W'→At W' v l
 keep:∀{W W':World} {v:Value} {l:List (Int×Int)},At W v l→bO NH W W'→W.heap.size≤W'.heap.size→At W' v l
 min:∀(v:Value) (l:List (Int×Int)) (w:World),At w v l →
  Calls Tryz.prog fN #[v,.pointer none] w fun e w'=>e=.returned (.tuple #[el (hd l),.bool (decide (0<l.length))])∧Below w.heap.size w w'
 pop:∀(v:Value) (l:List (Int×Int)) (w:World),At w v l→l.length<16777216 →
  Calls Tryz.prog fP #[v,.pointer none] w fun e w' => ∃v',e=.returned (.tuple #[.iface T v',.bool (decide (0<l.length))])∧At w' v' l.tail∧Below w.heap.size w w'
 size:∀(v:Value) (l:List (Int×Int)) (w:World),At w v l →
  Calls Tryz.prog fS #[v] w fun e w'=>e=.returned (.int .i64 (l.length:Nat))∧Below w.heap.size w w'
 kind:∀(v:Value) (w:World),Calls Tryz.prog 37 #[.agg #[.iface T v]] w fun e w'=>e=.returned (.int .i64 k)∧Below w.heap.size w w'
 of:∀(A:Option Addr) (xs:List (Int×Int)) (cap:Nat) (w:World),Row w A xs→xs.length<16777216→fits xs →
  Calls Tryz.prog 18 #[.pointer none,.int .i64 k,.slice A xs.length cap] w fun e w' => ∃v',e=.returned (.tuple #[.agg #[.iface T v'],.int .i64 0])∧At w' v' (dw xs)∧Below w.heap.size w w'
end Go.Proofs.YtmeodbjlmjpnbaaGreat
namespace Go.Proofs.YtmeodbjlmjpnbaaGreat
open Go.Sort Go.RowKit
section
variable {k:Int}{T:TypeId}{fI fM fN fP fS:FuncId}{At:World→Value→List (Int×Int)→Prop}
theorem Hg (K:iT k T fI fM fN fP fS At)(v:Value)(l:List (Int×Int))(w:World)(ha:At w v l)(hn:l.length<16777216)(hp:0<l.length) :
  Calls Tryz.prog 33 #[.agg #[.iface T v],.pointer none] w fun e w' => ∃v',e=.returned (.tuple #[.agg #[.iface T v'],.int .i64 0])∧At w' v' l.tail∧Below w.heap.size w w':=by
 have hm:=K.mP;have hc:=K.cP;have hb1:Below w.heap.size w ((w.alloc (.cells #[.iface T v] 27)).alloc (.cells #[.nilIface] 27)):=((bG _).alloc (by simp) _);have hF:((w.alloc (.cells #[.iface T v] 27)).alloc (.cells #[.nilIface] 27)).heap[w.heap.size+1]?=some (.cells #[.nilIface] 27 (0,0)):=aJ (by simp);have H:=hdz (af (af hb1 hF) (K.stay ha hb1));have HN:=hdz (af hn hp);clear ha hb1 hF hn hp;go_enter Tryz.func33,Tryz.ntmps33
 go_wp2_with fail
 refine (K.pop v l _ H.out.2 HN.out.1).mono ?_;rintro e w1 ⟨v',he,ht,hb⟩;rw [show decide (0<l.length)=true from decide_eq_true HN.out.2]at he;subst he;have hF:=(hb.block _ (lt_of_heap H.out.1.2)).trans H.out.1.2;have k0:=one_cell hF;have z0:=iQ hF;have k1:=one_cell (gD hF (.iface T v'));have hB:Below w.heap.size w (w1.setCell ⟨w.heap.size+1,0,none⟩ (.iface T v')):=(H.out.1.1.trans (hb.mono H.out.1.1.size)).setCell (by show w.heap.size≤w.heap.size+1;omega) _;have Y:=hdz (af (K.keep ht (bO.set hF (by decide) 0 (.iface T v')) (by simp [World.setCell])) hB);clear ht hb hF hB;go_wp2_with fail
 refine bodyPost_ret (v := .tuple #[.agg #[.iface T v'],.int .i64 0]) (by simp [results,Tryz.results33,go_sem,k1]) rfl ⟨v',rfl,Y.out.1,Y.out.2⟩
theorem GR (K:iT k T fI fM fN fP fS At)(v:Value)(w:World)(ha:At w v []) :
  Calls Tryz.prog 54 #[.agg #[.iface T v],.pointer none] w fun e w'=>e=.returned (.tuple #[.agg #[.int .i64 0,.int .i64 0],.int .i64 23])∧Below w.heap.size w w':=by
 have hb1:Below w.heap.size w ((w.alloc (.cells #[.iface T v] 27)).alloc (.cells #[.int .i64 0,.int .i64 0] 29)):=((bG _).alloc (by simp) _);have hm:=K.mN;have hc:=K.cN;have hF:aB ((w.alloc (.cells #[.iface T v] 27)).alloc (.cells #[.int .i64 0,.int .i64 0] 29)) (w.heap.size+1) 29 (.int .i64 0) (.int .i64 0):=aJ (by simp);have H:=hdz (af (af hb1 hF) (K.stay ha hb1));have HN:=hdz True.intro;clear ha hb1 hF;go_enter Tryz.func54,Tryz.ntmps54
 go_wp2_with fail
 refine (K.min v [] _ H.out.2).mono ?_;rintro e w1 ⟨he,hb⟩;rw [show decide (0<([]:List (Int×Int)).length)=false from rfl,show hd []=((0:Int),(0:Int)) from rfl]at he;subst he;have hv:=H.out.1.2.stay hb;have c0:=hv.c0;have c1:=hv.c1;have z0:=hv.z0;have z1:=hv.z1;have hs:=(hv.alloc (.cells #[.int .i64 0,.int .i64 0] 29)).set (.int .i64 0) (.int .i64 0);have k0:=hs.c0;have k1:=hs.c1;have hv2:=hv.alloc (.cells #[.int .i64 0,.int .i64 0] 29);have d0:=hv2.c0;have d1:=hv2.c1;have y0:=hv2.z0;have y1:=hv2.z1;have hB0:=H.out.1.1.trans (hb.mono H.out.1.1.size);have hB:Below w.heap.size w (((w1.alloc (.cells #[.int .i64 0,.int .i64 0] 29)).setCell ⟨w.heap.size+1,0,none⟩ (.int .i64 0)).setCell ⟨w.heap.size+1,1,none⟩ (.int .i64 0)):=((hB0.alloc hB0.size _).setCell (by show w.heap.size≤w.heap.size+1;omega) _).setCell (by show w.heap.size≤w.heap.size+1;omega) _;have Y:=hdz hB;clear hb hv hs hv2 hB hB0;go_wp2_with fail
 refine bodyPost_ret (v := .tuple #[.agg #[.int .i64 0,.int .i64 0],.int .i64 23]) (by simp [results,Tryz.results54,go_sem,k0,k1]) rfl ⟨rfl,Y.out⟩
theorem G5 (K:iT k T fI fM fN fP fS At)(v:Value)(l:List (Int×Int))(w:World)(ha:At w v l)(hp:0<l.length) :
  Calls Tryz.prog 54 #[.agg #[.iface T v],.pointer none] w fun e w'=>e=.returned (.tuple #[el (hd l),.int .i64 0])∧Below w.heap.size w w':=by
 have hb1:Below w.heap.size w ((w.alloc (.cells #[.iface T v] 27)).alloc (.cells #[.int .i64 0,.int .i64 0] 29)):=((bG _).alloc (by simp) _);have hm:=K.mN;have hc:=K.cN;have hF:aB ((w.alloc (.cells #[.iface T v] 27)).alloc (.cells #[.int .i64 0,.int .i64 0] 29)) (w.heap.size+1) 29 (.int .i64 0) (.int .i64 0):=aJ (by simp);have H:=hdz (af (af hb1 hF) (K.stay ha hb1));have HN:=hdz hp;obtain ⟨x,hx⟩:=aU (hd l);obtain ⟨x1,x2⟩:=x;rw [←hx];have HX:=hdz hx;clear ha hb1 hF hp hx;go_enter Tryz.func54,Tryz.ntmps54
 go_wp2_with fail
 refine (K.min v l _ H.out.2).mono ?_;rintro e w1 ⟨he,hb⟩;rw [show decide (0<l.length)=true from decide_eq_true HN.out,←HX.out]at he;subst he;have hv:=H.out.1.2.stay hb;have c0:=hv.c0;have c1:=hv.c1;have z0:=hv.z0;have z1:=hv.z1;have hs:=(hv.alloc (.cells #[.int .i64 x1,.int .i64 x2] 29)).set (.int .i64 x1) (.int .i64 x2);have k0:=hs.c0;have k1:=hs.c1;have hv2:=hv.alloc (.cells #[.int .i64 x1,.int .i64 x2] 29);have d0:=hv2.c0;have d1:=hv2.c1;have y0:=hv2.z0;have y1:=hv2.z1;have hB0:=H.out.1.1.trans (hb.mono H.out.1.1.size);have hB:Below w.heap.size w (((w1.alloc (.cells #[.int .i64 x1,.int .i64 x2] 29)).setCell ⟨w.heap.size+1,0,none⟩ (.int .i64 x1)).setCell ⟨w.heap.size+1,1,none⟩ (.int .i64 x2)):=((hB0.alloc hB0.size _).setCell (by show w.heap.size≤w.heap.size+1;omega) _).setCell (by show w.heap.size≤w.heap.size+1;omega) _;have Y:=hdz hB;clear hb hv hs hv2 hB hB0;go_wp2_with fail
 refine bodyPost_ret (v := .tuple #[.agg #[.int .i64 x1,.int .i64 x2],.int .i64 0]) (by simp [results,Tryz.results54,go_sem,k0,k1]) rfl ⟨rfl,Y.out⟩
theorem Ce (K:iT k T fI fM fN fP fS At)(v:Value)(l:List (Int×Int))(w:World)(ha:At w v l) :
  Calls Tryz.prog 27 #[.agg #[.iface T v]] w fun e w'=>e=.returned (.int .i64 (l.length:Nat))∧Below w.heap.size w w':=by
 have hb1:Below w.heap.size w (w.alloc (.cells #[.iface T v] 27)):=(bG _);have hm:=K.mS;have hc:=K.cS;have H:=hdz (af hb1 (K.stay ha hb1));obtain ⟨z,hz⟩:∃z:Int,z=(l.length:Nat):=⟨_,rfl⟩;rw [←hz];have HZ:=hdz hz;clear ha hb1 hz;go_enter Tryz.func27,Tryz.ntmps27
 go_wp2_with fail
 refine (K.size v l _ H.out.2).mono ?_;rintro e w1 ⟨he,hb⟩;rw [←HZ.out]at he;subst he;have Y:=hdz (H.out.1.trans (hb.mono H.out.1.size));clear hb;go_wp2_with fail
 refine bodyPost_ret (v := .int .i64 z) (by simp [results,Tryz.results27,go_sem]) rfl ⟨rfl,Y.out⟩
end
theorem Hl (w:World):Calls Tryz.prog 37 #[.agg #[.nilIface]] w fun e w'=>e=.returned (.int .i64 0)∧Below w.heap.size w w':=by
 have hb1:Below w.heap.size w (w.alloc (.cells #[.nilIface] 27)):=(bG _);have h1:∀(w:World),(Instr.typeAssert .nilIface 25 177 true).run Tryz.prog w=.ok (.tuple #[.agg #[.pointer none],.bool false]) w:=fun _=>by kernel_rfl
 have h2:∀(w:World),(Instr.typeAssert .nilIface 25 179 true).run Tryz.prog w=.ok (.tuple #[.agg #[.pointer none,.int .i64 0],.bool false]) w:=fun _=>by kernel_rfl
 have h3:∀(w:World),(Instr.typeAssert .nilIface 25 181 true).run Tryz.prog w=.ok (.tuple #[.agg #[.pointer none],.bool false]) w:=fun _=>by kernel_rfl
 have h4:∀(w:World),(Instr.typeAssert .nilIface 25 183 true).run Tryz.prog w=.ok (.tuple #[.agg #[.pointer none,.int .i64 0],.bool false]) w:=fun _=>by kernel_rfl
 have h5:∀(w:World),(Instr.typeAssert .nilIface 25 185 true).run Tryz.prog w=.ok (.tuple #[.agg #[.pointer none],.bool false]) w:=fun _=>by kernel_rfl
 have h6:∀(w:World),(Instr.typeAssert .nilIface 25 187 true).run Tryz.prog w=.ok (.tuple #[.agg #[.pointer none],.bool false]) w:=fun _=>by kernel_rfl
 go_enter Tryz.func37,Tryz.ntmps37
 go_wp2_with fail
 refine bodyPost_ret (v := .int .i64 0) (by simp [results,Tryz.results37,go_sem]) rfl ⟨rfl,hb1⟩
end Go.Proofs.YtmeodbjlmjpnbaaGreat
