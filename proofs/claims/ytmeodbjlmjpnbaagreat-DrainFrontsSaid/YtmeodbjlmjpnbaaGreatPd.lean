/- There are six kinds; a row of one element is in order. -/
import Derived.Test.YtmeodbjlmjpnbaaGreatPle
import Derived.Test.YtmeodbjlmjpnbaaGreatPpb
import Derived.Test.YtmeodbjlmjpnbaaGreatPwb
import Derived.Test.YtmeodbjlmjpnbaaGreatPa
import Derived.Test.YtmeodbjlmjpnbaaGreatPbi
import Derived.Test.YtmeodbjlmjpnbaaGreatPsb
import Derived.Test.YtmeodbjlmjpnbaaGreatPro
import Derived.Shelf.Abstract
import Derived.Shelf.RegionOpen
import Derived.OwnWalkIn
import Derived.TacticsInMore
import Derived.Sort.LoopGhostIn
import Derived.RangeFuncNested
import Derived.RangeFuncBound
import Derived.RangeFuncCalls
import Derived.RangeFuncLeaves
import Derived.Maps.AppendAt
import Derived.Deep.RegionHeld3
import Derived.Test.YtmeodbjlmjpnbaaGreatProg
import Derived.WalkKit
import Derived.Defers
import Derived.Laws.LoneSync
import Derived.RegionCalls
import Derived.Lib.Hide
import Derived.Lib.SliceRun
import Derived.Deep.LoopGhost
set_option maxRecDepth 100000
set_option maxHeartbeats 8000000
namespace Go.Proofs.YtmeodbjlmjpnbaaGreat
open Go.Sort Go.RowKit
theorem Fu (k:Int)(h:1≤k∧k≤6):∃(T:TypeId) (fI fM fN fP fS:FuncId) (At:World→Value→List (Int×Int)→Prop),iT k T fI fM fN fP fS At:=by
 have:k=1∨k=2∨k=3∨k=4∨k=5∨k=6:=by omega
 rcases this with rfl|rfl|rfl|rfl|rfl|rfl
 ·exact ⟨_,_,_,_,_,_,_,Le.mr⟩
 ·exact ⟨_,_,_,_,_,_,_,Bi.Hp.mr⟩
 ·exact ⟨_,_,_,_,_,_,_,Pd.mr⟩
 ·exact ⟨_,_,_,_,_,_,_,Sk.Hp.mr⟩
 ·exact ⟨_,_,_,_,_,_,_,Sk.Ro.mr⟩
 ·exact ⟨_,_,_,_,_,_,_,U.Bo.mr⟩
end Go.Proofs.YtmeodbjlmjpnbaaGreat
namespace Go.Proofs.YtmeodbjlmjpnbaaGreat
open Go.Sort Go.RowKit Go.Shelf
attribute [local go_sem] Oper.semAt_some
structure Kr (B:Nat)(W W':World):Prop where
 nodes:bO NH W W'
 size:W.heap.size≤W'.heap.size
 mp:∀(k:Nat) (u:Value),W.heap[k]?=some (.cells #[u] 49 (0,0))→W'.heap[k]?=some (.cells #[u] 49 (0,0))
 left:∀(k:Nat) (u:Value),B≤k→W.heap[k]?=some (.cells #[u] 27 (0,0))→W'.heap[k]?=some (.cells #[u] 27 (0,0))
theorem Kr.below {B:Nat}{W W':World}(h:Below W.heap.size W W'):Kr B W W' :=
 ⟨bO.below h,h.size,fun k _ e=>(h.block k (lt_of_heap e)).trans e,fun k _ _ e=>(h.block k (lt_of_heap e)).trans e⟩
theorem Kr.trans {B:Nat}{U V W:World}(h:Kr B U V)(k:Kr B V W):Kr B U W :=
 ⟨h.nodes.trans k.nodes,Nat.le_trans h.size k.size,fun i u e=>k.mp i u (h.mp i u e),fun i u hi e=>k.left i u hi (h.left i u hi e)⟩
theorem Kr.put {B:Nat}(W:World)(l:Nat)(o o':Obj)(hl:W.heap[l]?=some o)(ho:o.isCells=false):Kr B W (W.putObj l o'):=by
 have key:∀(k:Nat) (cs:Array Value) (t:TypeId),W.heap[k]?=some (.cells cs t (0,0))→(W.putObj l o').heap[k]?=some (.cells cs t (0,0)):=fun k cs t e=>by
  have hne:k≠l:=fun ek=>by subst ek;rw [hl]at e;cases e;cases ho
  exact (World.putObj_heap_other hne).trans e
 exact ⟨fun k cs t _ e=>key k cs t e,by simp [World.putObj],fun k u e=>key _ _ _ e,fun k u _ e=>key _ _ _ e⟩
theorem Kr.set {B:Nat}{W:World}{g:Nat}{cs:Array Value}{t:TypeId}{z:Nat×Nat}(hg:W.heap[g]?=some (.cells cs t z))(hn:¬NH t)(hm:t≠49)(hl:t≠27∨g<B)(off:Nat)(v:Value):Kr B W (W.setCell ⟨g,off,none⟩ v):=by
 refine ⟨bO.set hg hn off v,by simp [World.setCell],fun k u e=>(aH _ _ fun ek=>?_).trans e,fun k u hk e=>(aH _ _ fun ek=>?_).trans e⟩
 ·subst ek;rw [hg]at e;cases e;exact hm rfl
 ·subst ek;rw [hg]at e;cases e
  rcases hl with hl|hl
  ·exact hl rfl
  ·omega
theorem Kr.grown {B:Nat}{W W':World}{row:Option Nat}(hg:W.grownBy W' row)(hr:∀g,row=some g → ∃cs t z,W.heap[g]?=some (.cells cs t z) ∧ ¬NH t∧t≠49∧t≠27):Kr B W W':=by
 have key:∀(k:Nat) (cs:Array Value) (t:TypeId),(NH t∨t=49∨t=27)→W.heap[k]?=some (.cells cs t (0,0))→W'.heap[k]?=some (.cells cs t (0,0)):=fun k cs t ht e=>by
  refine (hg.block k (lt_of_heap e) fun ek=>?_).trans e;obtain ⟨cs',t',z,h1,h2,h3,h4⟩:=hr k ek.symm;rw [e]at h1
  cases h1
  rcases ht with ht|ht|ht
  ·exact h2 ht
  ·exact h3 ht
  ·exact h4 ht
 exact ⟨fun k cs t ht e=>key k cs t (.inl ht) e,hg.size,fun k u e=>key _ _ _ (.inr (.inl rfl)) e,fun k u _ e=>key _ _ _ (.inr (.inr rfl)) e⟩
theorem Kr.appended {B lb base:Nat}{W w1:World}{v v':Value}{xs:List (Int×Int)}{tmp:Obj}(hv:Boxed W lb 22 v)(hrow:Own W base v xs)(hgrow:(W.alloc tmp).grownBy w1 v.ownBlock):Kr B W (w1.setCell ⟨lb,0,none⟩ v'):=by
 have hv1:Boxed w1 lb 22 v:=(hv.alloc tmp).kept hgrow (hv.not_row (by decide) hrow);refine ((Kr.below (bG tmp)).trans (Kr.grown hgrow fun g e=>?_)).trans (Kr.set hv1 (by decide) (by decide) (.inl (by decide)) 0 v');have hrow2:=hrow.below (bG tmp);rcases hrow2.2 with ⟨rfl,hn⟩|⟨g',cap,cur,rfl,hb,hg,_⟩
 ·cases e
 ·cases e
  exact ⟨cur,_,_,hg,by decide,by decide,by decide⟩
theorem fU {F:Fence}{n:Nat}{P:Program}{w:World}{ops:Array Oper}{rest:List Oper}{o:Oper}{a:Act}{Q:Exit→Act→World→Prop}(hgd:o.guard=Option.none)(s x:Operand)(t:TypeId)
  (ho:o.op=.call { callee := .builtin .append,args:=#[s,x],argTypes:=#[t,t] }) (v xv v':Value) (w':World) (hs:a.eval s=v) (hx:a.eval x=xv)
  (hrun:(Builtin.append_ #[t,t] o.type #[v,xv]).run P w=.ok v' w') (h:wpListIn F n P ops Q rest (a.put o.dst v') w'):wpListIn F n P ops Q (o::rest) a w:=by
 refine wpListIn_plain hgd fun K hK=>?_;unfold Oper.wpIn;refine ⟨?_,?_⟩
 ·simp [Oper.about,ho,resolve,Target.leads,Sem.run_pure]
 ·rw [Oper.semAt_plain F _ _ (by rw [ho];intro c hc';cases hc')];simp [execOp,ho,resolve,invoke,builtin,hs,hx,hrun,Result.andThen];exact hK _ _ h
theorem vS (w:World)(base:Nat)(v:Value)(xs:List (Int×Int))(x:Int×Int)(hown:Own w base v xs)(hlen:xs.length<1073741824)(hb:base≤w.heap.size) :
  ∃v' w',(Builtin.append_ #[22, 22] 22 #[v,.slice (some ⟨w.heap.size,0,none⟩) 1 1]).run Tryz.prog (w.alloc (.cells #[.int .i64 x.1,.int .i64 x.2] 29))=.ok v' w'∧Own w' base v' (xs++[x])∧(w.alloc (.cells #[.int .i64 x.1,.int .i64 x.2] 29)).grownBy w' v.ownBlock :=
 wK (w.alloc (.cells #[.int .i64 x.1,.int .i64 x.2] 29)) base v xs [x] (some ⟨w.heap.size,0,none⟩) 1 (hown.below (bG _)) (yV w [x] _) (fun e=>by cases e) (by simp;omega) (by simp;omega)
theorem lg {β : Type}{B:Nat}{J : β→World→Prop}(h:AbidesFrom B J){s : β}{W W':World}(hs:J s W)(hb:Below W.heap.size W W'):J s W' :=
 h s W W' none hs ⟨hb.os,hb.tape,hb.output,hb.size,fun k hk _=>hb.block k hk⟩ (fun r e=>by cases e)
abbrev oF (w:World)(u:Value):World:=(w.alloc (.cells #[.pointer none] 49)).alloc (.cells #[u] 27)
theorem jh (w:World)(u:Value):Below w.heap.size w (oF w u):=(bG _).alloc (by simp) _
theorem pX (w:World)(u:Value):(oF w u).heap.size=w.heap.size+1+1:=by simp
theorem wo (w:World)(u:Value):(oF w u).heap[w.heap.size+1]?=some (.cells #[u] 27 (0,0)):=aJ (by simp)
theorem wu (w:World)(u:Value):(oF w u).heap[w.heap.size]?=some (.cells #[.pointer none] 49 (0,0)):=(Below.heap_alloc _ _ _ (by simp)).trans (heap_alloc_new w _)
abbrev vL (n:Nat):Value := .func (.func 77) #[] #[.pointer (some ⟨n+1,0,none⟩),.pointer (some ⟨n,0,none⟩)]
theorem rG (T:TypeId)(v:Value)(w:World):Calls Tryz.prog 35 #[.pointer none,.agg #[.iface T v]] w fun e w' =>
  e=.returned (vL w.heap.size)∧w'=oF w (.iface T v):=by
 go_enter Tryz.func35,Tryz.ntmps35
 go_wp2_with fail
 refine bodyPost_ret (v:=vL w.heap.size) (by simp [results,Tryz.results35,go_sem]) rfl ⟨rfl,rfl⟩
section
variable {k:Int}{T:TypeId}{fI fM fN fP fS:FuncId}{At:World→Value→List (Int×Int)→Prop}
theorem rJ (K:iT k T fI fM fN fP fS At)(bh bm:Nat)(v:Value)(l:List (Int×Int))(w:World)(hl:l.length<16777216)(hh:w.heap[bh]?=some (.cells #[.iface T v] 27 (0,0)))(hm:w.heap[bm]?=some (.cells #[.pointer none] 49 (0,0)))(ha:At w v l)(n:Nat)(hn:1≤n) :
  SeqStopsK Fence.wide n Tryz.prog 77 #[.pointer (some ⟨bh,0,none⟩),.pointer (some ⟨bm,0,none⟩)] (fun x:Int×Int=>#[el x]) (Kr w.heap.size) (fun xs=>xs=l) (fun pre=>pre <+: l) l.length w:=fun lp J Jx W hW hJ hJx hY h0=>by
 have hB1:Below W.heap.size W (W.alloc (.cells #[.iface T v] 27)):=bG _;have hh1:=(hW.block bh (lt_of_heap hh)).trans hh;have c0:=one_cell hh1;have HM:=hdz ((hB1.block bm (Nat.lt_of_lt_of_le (lt_of_heap hm) hW.size)).trans ((hW.block bm (lt_of_heap hm)).trans hm));have HA:=hdz (K.stay (K.stay ha hW) hB1);have HL:=hdz (show (W.alloc (.cells #[.iface T v] 27)).heap[W.heap.size]?=some (.cells #[.iface T v] 27 (0,0)) from aJ (by simp));have HJ0:=hdz (lg hJ h0 hB1);have HY:=hdz hY;have HJ:=hdz hJ;have HN:=hdz (af hl hW.size);clear hh hh1 hm ha hY hJ hJx h0 hB1 hl;refine callsIn_of_wp Tryz.func77 rfl trivial ?_ rfl;simp only [Tryz.ntmps77,List.size_toArray,List.length_cons,List.length_nil,Nat.reduceAdd,Nat.reduceSub,Array.replicate_succ,Array.replicate_zero,List.push_toArray,List.append_toArray,List.nil_append,List.cons_append];gi_wp2
 gi_loopg [4] l.length (fun kk c wr => ∃(pre rest:List (Int×Int)) (u:Value) (b:Nat),c=.pointer (some ⟨b,0,none⟩)∧l=pre++rest∧kk=rest.length∧wr.heap[b]?=some (.cells #[.iface T u] 27 (0,0))∧w.heap.size≤b∧At wr u rest∧wr.heap[bm]?=some (.cells #[.pointer none] 49 (0,0))∧J pre wr)
 case atStart=>exact ⟨[],l,v,_,rfl,rfl,rfl,HL.out,HN.out.2,HA.out,HM.out,HJ0.out⟩
 case round =>
  obtain ⟨pre,rest,u,b,rfl,hx,hk,hlb,hbb,ha,hm,hj⟩:=hrel;have c1:=one_cell hlb;have c2:=one_cell hm;have HX:=hdz (af hx (af hk hbb));have HLb:=hdz hlb;have HAr:=hdz ha;have HMr:=hdz hm;have HJr:=hdz hj;have hlen:rest.length<16777216:=by have h1:=congrArg List.length hx;have h2:=HN.out.1;rw [List.length_append]at h1;omega
  have HRl:=hdz hlen;clear hx hk hlb ha hm hj hlen HM HA HL HJ0 hbb
  cases rest with
  | nil =>
   gi_wp2
   refine ⟨trivial,(callsIn_wide.2 (GR K u _ HAr.out)).mono ?_⟩;rintro e w1 ⟨rfl,hb⟩;have HE:=hdz (lg HJ.out (lg HJ.out HJr.out hb) ((Below.refl w1.heap.size w1).alloc (Nat.le_refl _) (.cells #[.int .i64 0,.int .i64 0] 29)));clear hb;gi_wp2
   refine ⟨fun _ h=>(by cases h),?_⟩;gi_wp2
   refine bodyPost_ret (results_none rfl _ _ _) rfl ⟨⟨_,rfl⟩,.inl ⟨l,rfl,?_⟩⟩;have h1:=HX.out.1;rw [List.append_nil]at h1;rw [h1];exact HE.out
  | cons x r =>
   obtain ⟨x1,x2⟩:=x;gi_wp2
   refine ⟨trivial,(callsIn_wide.2 (G5 K u ((x1,x2)::r) _ HAr.out (by simp))).mono ?_⟩;rintro e w1 ⟨he,hb⟩;rw [show hd ((x1,x2)::r)=(x1,x2) from rfl]at he;subst he;have hB2:=hb.alloc hb.size (.cells #[.int .i64 x1,.int .i64 x2] 29);have HB:=hdz (af (lg HJ.out HJr.out hB2) hB2);clear hb hB2;obtain ⟨fn,tmps,assign,body,hy,hR⟩:=HY.out pre (x1,x2) _ HB.out.1 (by rw [HX.out.1];simp);have HRR:=hdz hR;clear hR;gi_wp2
   refine HRR.out.mono ?_;rintro e W3 (⟨rfl,hj3,hk3⟩|⟨rfl,hj3⟩)
   ·have hlb3:=hk3.left b (.iface T u) HX.out.2.2 ((HB.out.2.block b (lt_of_heap HLb.out)).trans HLb.out);have hm3:=hk3.mp bm (.pointer none) ((HB.out.2.block bm (lt_of_heap HMr.out)).trans HMr.out);have ha3:=K.keep (K.stay HAr.out HB.out.2) hk3.nodes hk3.size;have hB4:=(Below.refl W3.heap.size W3).alloc (Nat.le_refl _) (.cells #[.iface T u] 27);have c3:=one_cell hlb3;have c4:=one_cell ((hB4.block bm (lt_of_heap hm3)).trans hm3);have HM4:=hdz ((hB4.block bm (lt_of_heap hm3)).trans hm3);have HA4:=hdz (K.stay ha3 hB4);have HJ4:=hdz (af hj3 hB4);have HL4:=hdz (show (W3.alloc (.cells #[.iface T u] 27)).heap[W3.heap.size]?=some (.cells #[.iface T u] 27 (0,0)) from aJ (by simp));have HS4:=hdz (Nat.le_trans HX.out.2.2 (Nat.le_of_lt (lt_of_heap hlb3)));clear hlb3 hm3 ha3 hB4 hj3 hk3;gi_wp2
    refine ⟨trivial,(callsIn_wide.2 (Hg K u ((x1,x2)::r) _ HA4.out HRl.out (by simp))).mono ?_⟩;rintro e w5 ⟨v5,rfl,ha5,hb5⟩;rw [List.tail_cons]at ha5;have hF:=(hb5.block _ (lt_of_heap HL4.out)).trans HL4.out;have k0:=one_cell hF;have z0:=iQ hF;have Im:=(hb5.block bm (lt_of_heap HM4.out)).trans HM4.out
    have hne:bm≠W3.heap.size:=fun e=>by
     have h1:=Im;rw [e,hF]at h1
     cases h1
    have HM5:=hdz ((aH (W:=w5) 0 (.iface T v5) hne).trans Im);have HA5:=hdz (K.keep ha5 (bO.set hF (by decide) 0 (.iface T v5)) (by simp [World.setCell]));have HF5:=hdz (gD hF (.iface T v5));have HJ5:=hdz (lg HJ.out HJ4.out.1 ((HJ4.out.2.trans (hb5.mono HJ4.out.2.size)).setCell (Nat.le_refl _) (.iface T v5):Below W3.heap.size W3 (w5.setCell ⟨W3.heap.size,0,none⟩ (.iface T v5))));clear Im hne ha5 hb5 hF;gi_wp2
    gi_roundg r.length
    case measure=>have:=HX.out.2.1;simp only [List.length_cons]at this;omega
    case rel=>exact ⟨pre++[(x1,x2)],r,v5,W3.heap.size,rfl,by rw [HX.out.1];simp,rfl,HF5.out,HS4.out,HA5.out,HM5.out,HJ5.out⟩
   ·gi_wp2
    refine bodyPost_ret (results_none rfl _ _ _) rfl ⟨⟨_,rfl⟩,.inr ⟨pre++[(x1,x2)],⟨r,?_⟩,hj3⟩⟩;rw [HX.out.1];simp
end
end Go.Proofs.YtmeodbjlmjpnbaaGreat
namespace Go.Proofs.YtmeodbjlmjpnbaaGreat
open Go.Sort Go.RowKit Go.Shelf
attribute [local go_sem] Oper.semAt_some
section
variable {k:Int}{T:TypeId}{fI fM fN fP fS:FuncId}{At:World→Value→List (Int×Int)→Prop}
def sG (w:World)(lb:Nat)(pre:List (Int×Int))(W:World):Prop:=(∃sv,Boxed W lb 22 sv∧W.ownsRow w.heap.size 29 2 sv pre.length (cellsE pre)∧True)∧Below w.heap.size w W
theorem qh (w:World)(lb B:Nat)(hB:w.heap.size≤B):OwnFrom B (sG w lb) :=
 OwnFrom.and (Own.from (holdsRow_own w.heap.size lb 22 29 2 (fun pre=>pre.length) (fun pre=>cellsE pre) (fun _ _=>True)) _) (ownFrom_below (Nat.le_refl _) hB)
theorem sG.stay {w:World}{lb:Nat}{pre:List (Int×Int)}{W W':World}(h:sG w lb pre W)(hb:Below W.heap.size W W'):sG w lb pre W' :=
 qh w lb _ (Nat.le_refl _) pre W W' none h ⟨hb.os,hb.tape,hb.output,hb.size,fun k hk _=>hb.block k hk⟩ (fun r e=>by cases e)
def EQ (f:Nat→Value→Array Value)(x:Int×Int)(a':Act)(W:World):Prop:=∃Bx,aB W Bx 29 (.int .i64 x.1) (.int .i64 x.2)∧a'={ tmps:=f Bx (el x),defers:=[] }
theorem tJ (B:Nat)(f:Nat→Value→Array Value)(x:Int×Int)(a':Act):OwnFrom B (fun (_:Unit) W=>EQ f x a' W):=by
 rintro s A C row ⟨Bx,h1,h2⟩ hg hr;exact ⟨Bx,h1.kept hg (fun r e=>(hr r e).2),h2⟩
theorem qg (K:iT k T fI fM fN fP fS At)(v:Value)(l:List (Int×Int))(w:World)(ha:At w v l)(hl:l.length<16777216) :
  Calls Tryz.prog 11 #[.pointer none,.agg #[.iface T v]] w fun e w' => ∃sv,e=.returned sv∧Own w' w.heap.size sv l∧Below w.heap.size w w':=by
 have hb1:Below w.heap.size w (oF ((w.alloc (.cells #[.iface T v] 27)).alloc (.cells #[.slice none 0 0] 22)) (.iface T v)):=((((Below.refl _ w).alloc (Nat.le_refl _) _).alloc (by simp) _).alloc (by simp;omega) _).alloc (by simp;omega) _;have H:=hdz (af hb1 (af (K.stay ha hb1) hl));clear hb1 ha hl;refine (callsIn_wide (n:=3)).1 ?_;refine callsIn_of_wp_marks Tryz.func11 rfl trivial ?_ rfl;simp only [Tryz.ntmps11,List.size_toArray,List.length_cons,List.length_nil,Nat.reduceAdd,Nat.reduceSub,Array.replicate_succ,Array.replicate_zero,List.push_toArray,List.append_toArray,List.nil_append,List.cons_append];gi_wp2
 refine ⟨trivial,(callsIn_wide.2 (rG T v _)).mono ?_⟩;rintro e w1 ⟨rfl,rfl⟩;gi_wp2
 have hX:((w.alloc (.cells #[.iface T v] 27)).alloc (.cells #[.slice none 0 0] 22)).heap.size=w.heap.size+1+1:=by simp
 have hs0:=pX ((w.alloc (.cells #[.iface T v] 27)).alloc (.cells #[.slice none 0 0] 22)) (.iface T v);have hlb:=((jh ((w.alloc (.cells #[.iface T v] 27)).alloc (.cells #[.slice none 0 0] 22)) (.iface T v)).block (w.heap.size+1) (by simp)).trans (show ((w.alloc (.cells #[.iface T v] 27)).alloc (.cells #[.slice none 0 0] 22)).heap[w.heap.size+1]?=some (.cells #[.slice none 0 0] 22 (0,0)) from aJ (by simp));have hmb:=wu ((w.alloc (.cells #[.iface T v] 27)).alloc (.cells #[.slice none 0 0] 22)) (.iface T v);have hhb:=wo ((w.alloc (.cells #[.iface T v] 27)).alloc (.cells #[.slice none 0 0] 22)) (.iface T v);rw [hX]at hs0 hmb hhb;generalize oF ((w.alloc (.cells #[.iface T v] 27)).alloc (.cells #[.slice none 0 0] 22)) (.iface T v)=W0 at *
 refine wpIn_rangeFunc_ownH rfl (by omega) (gf := 77) (lb:=#[.pointer (some ⟨w.heap.size+1+1+1,0,none⟩),.pointer (some ⟨w.heap.size+1+1,0,none⟩)]) rfl trivial (enters_of Tryz.func77 (by kernel_rfl) rfl)
  (rJ K _ _ v l W0 H.out.2.2 hhb hmb H.out.2.1 (3 - 1) (by omega)) (fun h k=>h.trans k) (fun W l o o' _ h h' _=>Kr.put W l o o' h h') (Below.refl _ _) (fun _=>rfl)
  (sG w (w.heap.size+1)) (fun _ _ _=>False) (qh w _ _ H.out.1.size) (fun _ _ _ _ _ hs _ _=>hs)
  ⟨⟨_,hlb,Own.none _ _,trivial⟩,H.out.1⟩
  (EQ (fun Bx xv=>#[.pointer none,.agg #[.iface T v],undef,.pointer (some ⟨w.heap.size,0,none⟩),.slice none 0 0,.pointer (some ⟨w.heap.size+1,0,none⟩),.pointer (some ⟨Bx,0,none⟩),.pointer none,.agg #[.iface T v],vL (w.heap.size+1+1),xv,undef,undef,undef,undef,undef]))
  (tJ _ _) ?assign ?body ?done ?stop
 case assign =>
  rintro lp pre ⟨x1,x2⟩ W K hi hK;gi_wp2
  have hbA:Below W.heap.size W (W.alloc (.cells #[.int .i64 x1,.int .i64 x2] 29)):=bG _;exact hK _ _ (gH hbA) (Kr.below hbA) (hi.stay hbA) ⟨W.heap.size,aB.new W _ _ _,rfl⟩
 case body =>
  rintro lp pre ⟨x1,x2⟩ a' W hlp hr ⟨⟨sv,hv,hrow, -⟩,hB⟩ ⟨Bx,hx,rfl⟩ hlen;have c0:=hv.cell;have d0:=hx.c0;have d1:=hx.c1;obtain ⟨sv',w1,hrun,hown,hgrow⟩:=vS W w.heap.size sv pre (x1,x2) hrow (by have:=H.out.2.2;omega) hB.size;obtain ⟨A',c',rfl, -⟩:=hown.form;obtain ⟨h1,h2,h3,h4,h5⟩:=Boxed.appended hv (by decide) hrow hB.size (Nat.le_succ _) hown hgrow;have hk:=Kr.appended (B:=w.heap.size+1+1+1+1) (v' := .slice A' (pre++[(x1,x2)]).length c') hv hrow hgrow;have c1:=h1.cell;have f1:=h1.frozen;have HE:=hdz (af (af h2 h3) (af h4 (af (hB.trans h5) hk)));generalize hL:(pre++[(x1,x2)]).length=L at *;have HLL:=hdz hL;clear hv hrow hown hgrow h1 h2 h3 h4 h5 hB hx hk hL;gi_wp2_with (gi_at_builtin;refine fU rfl _ _ _ rfl _ _ _ _ rfl rfl hrun ?_)
  have hL:=HLL.out;subst hL;exact ⟨HE.out.2.1.from _,HE.out.2.2.2,⟨_,HE.out.1.1,HE.out.1.2,trivial⟩,HE.out.2.2.1⟩
 case done =>
  rintro D xs W hD rfl ⟨⟨sv,hv,hrow, -⟩,hB⟩ hK;have c0:=hv.cell;gi_wp2
  refine ⟨by simp,.inl ⟨_,_,rfl,run_takeDeferred hK,?_⟩⟩;exact ⟨sv,by simp [results,Tryz.results11,go_sem],sv,rfl,ownsRow_putObj hrow _ hK rfl,hB.trans (belowK_b (w:=w) (Nat.le_refl _) W D _ _ (by omega) hK rfl rfl)⟩
 case stop =>
  rintro D c pre W _ _ h _;exact h.elim
end
end Go.Proofs.YtmeodbjlmjpnbaaGreat
namespace Go.Proofs.YtmeodbjlmjpnbaaGreat
open Go.Sort Go.RowKit Go.Shelf
attribute [local go_sem] Oper.semAt_some
section
variable {k:Int}{T:TypeId}{fI fM fN fP fS:FuncId}{At:World→Value→List (Int×Int)→Prop}
theorem Gi (K:iT k T fI fM fN fP fS At)(hk:1≤k)(v:Value)(z:Int)(hz:z<0)(w:World) :
  Calls Tryz.prog 13 #[.pointer none,.agg #[.iface T v],.int .i64 z] w fun e w'=>e=.returned (.tuple #[.slice none 0 0,.int .i64 24])∧Below w.heap.size w w':=by
 have hb1:Below w.heap.size w (w.alloc (.cells #[.iface T v] 27)):=(Below.refl _ w).alloc (Nat.le_refl _) _;have H:=hdz hb1;clear hb1;have hk0:¬k=0:=by omega
 have hk1:(k == 0)=false:=by simpa using hk0
 clear hk;go_enter Tryz.func13,Tryz.ntmps13
 go_wp2_with fail
 refine (K.kind v _).mono ?_;rintro e w1 ⟨rfl,hb⟩;have HB:=hdz (H.out.trans (hb.mono H.out.size));clear hb;go_wp2_with fail
 exact bodyPost_ret (v := .tuple #[.slice none 0 0,.int .i64 24]) (by simp [results,Tryz.results13,go_sem]) rfl ⟨rfl,HB.out⟩
theorem EY (K:iT k T fI fM fN fP fS At)(hk:1≤k)(v:Value)(l:List (Int×Int))(z t:Nat)(w:World)(ha:At w v l)(hl:l.length<16777216)(ht:(z≤l.length∧t=z)∨(l.length<z∧t=l.length))(h0:t=0) :
  Calls Tryz.prog 13 #[.pointer none,.agg #[.iface T v],.int .i64 (z:Int)] w fun e w'=>e=.returned (.tuple #[.slice none 0 0,.int .i64 0])∧Below w.heap.size w w':=by
 have hb1:Below w.heap.size w (w.alloc (.cells #[.iface T v] 27)):=(Below.refl _ w).alloc (Nat.le_refl _) _;have hf:(w.alloc (.cells #[.iface T v] 27)).heap[w.heap.size]?=some (.cells #[.iface T v] 27 (0,0)):=aJ (by simp);have H:=hdz (af hb1 (af (K.stay ha hb1) hf));clear hb1 ha hf;have hk0:¬k=0:=by omega
 have hk1:(k == 0)=false:=by simpa using hk0
 obtain ⟨n,hn⟩:=aU (l.length);rw [←hn]at ht;have HN:=hdz (af hn hl);clear hk hn hl;have hz0:¬(z:Int)<0:=by omega
 go_enter Tryz.func13,Tryz.ntmps13
 go_wp2_with fail
 refine (K.kind v _).mono ?_;rintro e w1 ⟨rfl,hb⟩;have hf:=(hb.block _ (lt_of_heap H.out.2.2)).trans H.out.2.2;have c1:=one_cell hf;have HB:=hdz (af (H.out.1.trans (hb.mono H.out.1.size)) (K.stay H.out.2.1 hb));clear hb hf;go_wp2_with fail
 refine (Ce K v l _ HB.out.2).mono ?_;rintro e w2 ⟨rfl,hb⟩;rw [←HN.out.1];have HE:=hdz ((HB.out.1.trans (hb.mono HB.out.1.size)).alloc (HB.out.1.trans (hb.mono HB.out.1.size)).size (.cells #[.int .i64 0] 3));clear hb;have ht':(z=0 ∧ ¬n<0)∨(0<z∧n=0):=by omega
 clear ht h0;rcases ht' with ⟨rfl,h1⟩|⟨h1,rfl⟩
 ·go_wp2_with fail
  exact bodyPost_ret (v := .tuple #[.slice none 0 0,.int .i64 0]) (by simp [results,Tryz.results13,go_sem]) rfl ⟨rfl,HE.out⟩
 ·have h2:(0:Int)<(z:Int):=by omega
  go_wp2_with fail
  exact bodyPost_ret (v := .tuple #[.slice none 0 0,.int .i64 0]) (by simp [results,Tryz.results13,go_sem]) rfl ⟨rfl,HE.out⟩
def Er (w:World)(tb lb t:Nat)(pre:List (Int×Int))(W:World):Prop:=(W.heap[tb]?=some (.cells #[.int .i64 (t:Int)] 3 (0,0))∧(w.heap.size≤tb∧tb≠lb∧pre.length<t))∧sG w lb pre W
theorem rP {β : Type}(B b:Nat)(cs:Array Value)(ty:TypeId):OwnFrom B (fun (_ : β) W=>W.heap[b]?=some (.cells cs ty (0,0))):=fun s X Y row hs hg hr=>by
 refine (hg.block b (lt_of_heap hs) fun e=>?_).trans hs;obtain ⟨-,o,ho,hc⟩:=hr b e.symm;rw [hs]at ho;cases ho;cases hc
theorem Bz (w:World)(tb lb t B:Nat)(hB:w.heap.size≤B):OwnFrom B (Er w tb lb t) :=
 OwnFrom.and (OwnFrom.and (rP B tb _ _) (ownFrom_pure B fun (pre:List (Int×Int))=>w.heap.size≤tb∧tb≠lb∧pre.length<t)) (qh w lb B hB)
theorem xW (K:iT k T fI fM fN fP fS At)(hk:1≤k)(v:Value)(l:List (Int×Int))(z t:Nat)(w:World)(ha:At w v l)(hl:l.length<16777216)(ht:(z≤l.length∧t=z)∨(l.length<z∧t=l.length))(h0:0<t) :
  Calls Tryz.prog 13 #[.pointer none,.agg #[.iface T v],.int .i64 (z:Int)] w fun e w' => ∃sv,e=.returned (.tuple #[sv,.int .i64 0])∧Own w' w.heap.size sv (l.take t)∧Below w.heap.size w w':=by
 have hb1:Below w.heap.size w (w.alloc (.cells #[.iface T v] 27)):=(Below.refl _ w).alloc (Nat.le_refl _) _;have hf:(w.alloc (.cells #[.iface T v] 27)).heap[w.heap.size]?=some (.cells #[.iface T v] 27 (0,0)):=aJ (by simp);have H:=hdz (af hb1 (af (K.stay ha hb1) hf));clear hb1 ha hf;have hk0:¬k=0:=by omega
 have hk1:(k == 0)=false:=by simpa using hk0
 obtain ⟨n,hn⟩:=aU (l.length);rw [←hn]at ht;have HN:=hdz (af hn hl);clear hk hn hl;have hz0:¬(z:Int)<0:=by omega
 refine (callsIn_wide (n:=3)).1 ?_;refine callsIn_of_wp_marks Tryz.func13 rfl trivial ?_ rfl;simp only [Tryz.ntmps13,List.size_toArray,List.length_cons,List.length_nil,Nat.reduceAdd,Nat.reduceSub,Array.replicate_succ,Array.replicate_zero,List.push_toArray,List.append_toArray,List.nil_append,List.cons_append];gi_wp2
 refine ⟨trivial,(callsIn_wide.2 (K.kind v _)).mono ?_⟩;rintro e w1 ⟨rfl,hb⟩;have hf:=(hb.block _ (lt_of_heap H.out.2.2)).trans H.out.2.2;have c1:=one_cell hf;have HB:=hdz (af (H.out.1.trans (hb.mono H.out.1.size)) (af (K.stay H.out.2.1 hb) hf));clear hb hf;gi_wp2
 refine ⟨trivial,(callsIn_wide.2 (Ce K v l _ HB.out.2.1)).mono ?_⟩;rintro e w2 ⟨rfl,hb⟩;rw [←HN.out.1];have hf:=(hb.block _ (lt_of_heap HB.out.2.2)).trans HB.out.2.2;have hb2:=HB.out.1.trans (hb.mono HB.out.1.size);have hbA:Below w2.heap.size w2 ((w2.alloc (.cells #[.int .i64 (t:Int)] 3)).alloc (.cells #[.slice none 0 0] 22)):=(bG _).alloc (by simp) _;have c2:=one_cell ((hbA.block _ (lt_of_heap hf)).trans hf);have HE:=hdz (af (hb2.trans (hbA.mono hb2.size)) (K.stay (K.stay HB.out.2.1 hb) hbA));have HT:=hdz (af ht h0);have hw2:=hb2.size;have hz1:((t:Int) == 0)=false:=by simp;omega
 have hz2:(t == 0)=false:=by simp;omega
 have hz3:¬t=0:=by omega
 clear hb hf hbA hb2
 have hm1:(if n<z then (n:Int) else (z:Int))=(t:Int):=by
  rcases ht with ⟨h1,rfl⟩|⟨h1,rfl⟩
  ·rw [if_neg (by omega)]
  ·rw [if_pos h1]
 have hm2:(if (n:Int)<(z:Int) then (n:Int) else (z:Int))=(t:Int):=by
  rw [←hm1];simp only [Int.ofNat_lt]
 clear ht;gi_wp2
 refine ⟨trivial,(callsIn_wide.2 (rG T v _)).mono ?_⟩;rintro e w1 ⟨rfl,rfl⟩;gi_wp2
 have hX:((w2.alloc (.cells #[.int .i64 (t:Int)] 3)).alloc (.cells #[.slice none 0 0] 22)).heap.size=w2.heap.size+1+1:=by simp
 have hs0:=pX ((w2.alloc (.cells #[.int .i64 (t:Int)] 3)).alloc (.cells #[.slice none 0 0] 22)) (.iface T v);have hlb:=((jh ((w2.alloc (.cells #[.int .i64 (t:Int)] 3)).alloc (.cells #[.slice none 0 0] 22)) (.iface T v)).block (w2.heap.size+1) (by simp)).trans (show ((w2.alloc (.cells #[.int .i64 (t:Int)] 3)).alloc (.cells #[.slice none 0 0] 22)).heap[w2.heap.size+1]?=some (.cells #[.slice none 0 0] 22 (0,0)) from aJ (by simp));have htb:=((jh ((w2.alloc (.cells #[.int .i64 (t:Int)] 3)).alloc (.cells #[.slice none 0 0] 22)) (.iface T v)).block w2.heap.size (by simp;omega)).trans (show ((w2.alloc (.cells #[.int .i64 (t:Int)] 3)).alloc (.cells #[.slice none 0 0] 22)).heap[w2.heap.size]?=some (.cells #[.int .i64 (t:Int)] 3 (0,0)) from (Below.heap_alloc _ _ _ (by simp)).trans (heap_alloc_new w2 _));have hmb:=wu ((w2.alloc (.cells #[.int .i64 (t:Int)] 3)).alloc (.cells #[.slice none 0 0] 22)) (.iface T v);have hhb:=wo ((w2.alloc (.cells #[.int .i64 (t:Int)] 3)).alloc (.cells #[.slice none 0 0] 22)) (.iface T v);have HW:=hdz (af (HE.out.1.trans ((jh ((w2.alloc (.cells #[.int .i64 (t:Int)] 3)).alloc (.cells #[.slice none 0 0] 22)) (.iface T v)).mono HE.out.1.size)) (K.stay HE.out.2 (jh ((w2.alloc (.cells #[.int .i64 (t:Int)] 3)).alloc (.cells #[.slice none 0 0] 22)) (.iface T v))));rw [hX]at hs0 hmb hhb;generalize oF ((w2.alloc (.cells #[.int .i64 (t:Int)] 3)).alloc (.cells #[.slice none 0 0] 22)) (.iface T v)=W0 at *
 refine wpIn_rangeFunc_ownH rfl (by omega) (gf := 77) (lb:=#[.pointer (some ⟨w2.heap.size+1+1+1,0,none⟩),.pointer (some ⟨w2.heap.size+1+1,0,none⟩)]) rfl trivial (enters_of Tryz.func77 (by kernel_rfl) rfl)
  (rJ K _ _ v l W0 HN.out.2 hhb hmb HW.out.2 (3 - 1) (by omega)) (fun h k=>h.trans k) (fun W l o o' _ h h' _=>Kr.put W l o o' h h') (Below.refl _ _) (fun _=>rfl)
  (Er w w2.heap.size (w2.heap.size+1) t) (fun c pre W=>(c=.exit 0∧pre.length=t)∧sG w (w2.heap.size+1) pre W) (Bz w _ _ t _ HW.out.1.size) (fun c=>OwnFrom.and (ownFrom_pure _ fun (pre:List (Int×Int))=>c=.exit 0∧pre.length=t) (qh w _ _ HW.out.1.size))
  ⟨⟨htb,by omega,by omega,HT.out.2⟩,⟨_,hlb,Own.none _ _,trivial⟩,HW.out.1⟩
  (EQ (fun Bx xv=>#[.pointer none,.agg #[.iface T v],.int .i64 (z:Int),undef,.pointer (some ⟨w.heap.size,0,none⟩),undef,.slice none 0 0,.int .i64 0,.pointer (some ⟨w2.heap.size,0,none⟩),.pointer (some ⟨w2.heap.size+1,0,none⟩),.pointer (some ⟨Bx,0,none⟩),.agg #[.iface T v],.int .i64 k,.bool false,.int .i64 (z:Int),.bool (decide ((z:Int)<0)),.int .i64 (z:Int),.agg #[.iface T v],.int .i64 (n:Int),.int .i64 (t:Int),.int .i64 (t:Int),.bool false,.pointer none,.agg #[.iface T v],vL (w2.heap.size+1+1),xv,undef,undef,undef,undef,undef,undef,undef,undef,undef]))
  (tJ _ _) ?assign ?body ?done ?stop
 case assign =>
  rintro lp pre ⟨x1,x2⟩ W K hi hK;gi_wp2
  have hbA:Below W.heap.size W (W.alloc (.cells #[.int .i64 x1,.int .i64 x2] 29)):=bG _;exact hK _ _ (gH hbA) (Kr.below hbA) ⟨⟨(hbA.block _ (lt_of_heap hi.1.1)).trans hi.1.1,hi.1.2⟩,hi.2.stay hbA⟩ ⟨W.heap.size,aB.new W _ _ _,rfl⟩
 case body =>
  rintro lp pre ⟨x1,x2⟩ a' W hlp hr ⟨⟨ht1,ht2,ht3,IC⟩,⟨sv,hv,hrow, -⟩,hB⟩ ⟨Bx,hx,rfl⟩ hlen;have c0:=hv.cell;have d0:=hx.c0;have d1:=hx.c1;obtain ⟨sv',w1,hrun,hown,hgrow⟩:=vS W w.heap.size sv pre (x1,x2) hrow (by have:=HN.out.2;omega) hB.size;obtain ⟨A',c',rfl, -⟩:=hown.form;obtain ⟨h1,h2,h3,h4,h5⟩:=Boxed.appended hv (by decide) hrow hB.size (show w.heap.size≤w2.heap.size+1 by omega) hown hgrow;have hk:=Kr.appended (B:=w2.heap.size+1+1+1+1) (v' := .slice A' (pre++[(x1,x2)]).length c') hv hrow hgrow;have c1:=h1.cell;have f1:=h1.frozen;have hlv:=h2.cell
  have Ip:(w1.setCell ⟨w2.heap.size+1,0,none⟩ (.slice A' (pre++[(x1,x2)]).length c')).heap[w2.heap.size]?=some (.cells #[.int .i64 (t:Int)] 3 (0,0)):=by
   refine (aH _ _ ht3).trans ((hgrow.block _ (by simp;have:=lt_of_heap ht1;omega) fun e=>?_).trans ((Below.heap_alloc _ _ _ (lt_of_heap ht1)).trans ht1));rcases hrow.2 with ⟨rfl,hn⟩|⟨g',cap,cur,rfl,hb,hg,_⟩
   ·cases e
   ·cases e
    have h9:=ht1.symm.trans hg
    cases h9
  have c5:=one_cell Ip;have HE:=hdz (af (af h2 h3) (af h4 (af (hB.trans h5) hk)));have HV:=hdz (af Ip (af ht2 ht3));generalize hL:(pre++[(x1,x2)]).length=L at *;have hL4:L≤t:=by rw [←hL];simp;omega
  have HLL:=hdz hL;clear hv hrow hown hgrow h1 h2 h3 h4 h5 hB hx hk hL ht1 ht2 ht3 IC Ip hlb htb hmb hhb;by_cases he:L=t
  ·have e1:((L:Int) == (t:Int))=true:=by simp;omega
   have e2:(L == t)=true:=by simp;omega
   have HEq:=hdz he;clear he hL4;gi_wp2_with (gi_at_builtin;refine fU rfl _ _ _ rfl _ _ _ _ rfl rfl hrun ?_)
   have hL:=HLL.out;subst hL;exact ⟨HE.out.2.1.from _,⟨rfl,HEq.out⟩,⟨_,HE.out.1.1,HE.out.1.2,trivial⟩,HE.out.2.2.1⟩
  ·have e1:((L:Int) == (t:Int))=false:=by simp;omega
   have e2:(L == t)=false:=by simp;omega
   have HLt:=hdz (show L<t by omega);clear he hL4;gi_wp2_with (gi_at_builtin;refine fU rfl _ _ _ rfl _ _ _ _ rfl rfl hrun ?_)
   have hL:=HLL.out;subst hL;exact ⟨HE.out.2.1.from _,HE.out.2.2.2,⟨HV.out.1,HV.out.2.1,HV.out.2.2,HLt.out⟩,⟨_,HE.out.1.1,HE.out.1.2,trivial⟩,HE.out.2.2.1⟩
 case done =>
  rintro D xs W hD rfl ⟨⟨-, -, -,h4⟩, -⟩ hK;have h5:=HT.out.1;rw [HN.out.1]at h5;omega
 case stop =>
  rintro D c pre W hD hpre ⟨⟨rfl,hpl⟩,⟨sv,hv,hrow, -⟩,hB⟩ hK;have c0:=hv.cell;gi_wp2
  refine ⟨by simp,.inl ⟨_,_,rfl,run_takeDeferred hK,?_⟩⟩;have hpe:pre=l.take t:=by rw [←hpl];exact List.prefix_iff_eq_take.1 hpre
  rw [←hpe];exact ⟨.tuple #[sv,.int .i64 0],by simp [results,Tryz.results13,go_sem],sv,rfl,ownsRow_putObj hrow _ hK rfl,hB.trans (belowK_b (w:=w) (Nat.le_refl _) W D _ _ (by omega) hK rfl rfl)⟩
end
end Go.Proofs.YtmeodbjlmjpnbaaGreat
namespace Go.Proofs.YtmeodbjlmjpnbaaGreat
open Go.Sort Go.RowKit Go.Shelf
attribute [local go_sem] Oper.semAt_some
def sK (w:World)(ob xb:Nat)(x:Int×Int)(pre:List (Int×Int))(W:World):Prop:=((W.heap[ob]?=some (.cells #[.int .i64 (pre.count x:Nat)] 3 (0,0))∧W.heap[xb]?=some (.cells #[.int .i64 x.1,.int .i64 x.2] 29 (0,0)))∧(w.heap.size≤ob∧xb≠ob))∧Below w.heap.size w W
theorem sH (w:World)(ob xb:Nat)(x:Int×Int)(B:Nat)(hB:w.heap.size≤B):OwnFrom B (sK w ob xb x):=by
 refine OwnFrom.and (OwnFrom.and (OwnFrom.and ?_ (rP B xb _ _)) (ownFrom_pure B fun _=>w.heap.size≤ob∧xb≠ob)) (ownFrom_below (Nat.le_refl _) hB);exact fun s X Y row hs hg hr=>rP B ob _ _ s X Y row hs hg hr
theorem sK.stay {w:World}{ob xb:Nat}{x:Int×Int}{pre:List (Int×Int)}{W W':World}(h:sK w ob xb x pre W)(hb:Below W.heap.size W W'):sK w ob xb x pre W' :=
 sH w ob xb x _ h.2.size pre W W' none h ⟨hb.os,hb.tape,hb.output,hb.size,fun k hk _=>hb.block k hk⟩ (fun r e=>by cases e)
theorem Ag {l p:List (Int×Int)}{x y:Int×Int}(ho:ordered l)(hp:p++[y] <+: l)(hxy:dH x y=true):l.count x=p.count x:=by
 obtain ⟨r,rfl⟩:=hp;unfold ordered at ho;rw [List.append_assoc,List.pairwise_append]at ho
 have h0:(y::r).count x=0:=by
  rw [List.count_eq_zero];intro hx;rcases List.mem_cons.1 hx with rfl|hx
  ·rw [ku]at hxy;omega
  ·have:=(List.pairwise_cons.1 ho.2.1).1 x hx;rw [hxy]at this
   cases this
 rw [List.append_assoc,List.count_append];show p.count x+(y::r).count x=_;omega
section
variable {k:Int}{T:TypeId}{fI fM fN fP fS:FuncId}{At:World→Value→List (Int×Int)→Prop}
theorem CP (K:iT k T fI fM fN fP fS At)(v:Value)(l:List (Int×Int))(x:Int×Int)(w:World)(ha:At w v l)(hl:l.length<16777216)(ho:ordered l) :
  Calls Tryz.prog 22 #[.agg #[.iface T v],el x] w fun e w'=>e=.returned (.int .i64 (l.count x:Nat))∧Below w.heap.size w w':=by
 obtain ⟨x1,x2⟩:=x;have hbA:Below w.heap.size w (((w.alloc (.cells #[.iface T v] 27)).alloc (.cells #[.int .i64 x1,.int .i64 x2] 29)).alloc (.cells #[.int .i64 0] 3)):=((bG _).alloc (by simp) _).alloc (by simp;omega) _;have H:=hdz (af hbA (af (K.stay ha hbA) (af hl ho)));clear hbA ha hl ho;refine (callsIn_wide (n:=3)).1 ?_;refine callsIn_of_wp_marks Tryz.func22 rfl trivial ?_ rfl;simp only [Tryz.ntmps22,List.size_toArray,List.length_cons,List.length_nil,Nat.reduceAdd,Nat.reduceSub,Array.replicate_succ,Array.replicate_zero,List.push_toArray,List.append_toArray,List.nil_append,List.cons_append];gi_wp2
 refine ⟨trivial,(callsIn_wide.2 (rG T v _)).mono ?_⟩;rintro e w1 ⟨rfl,rfl⟩;gi_wp2
 have hX:(((w.alloc (.cells #[.iface T v] 27)).alloc (.cells #[.int .i64 x1,.int .i64 x2] 29)).alloc (.cells #[.int .i64 0] 3)).heap.size=w.heap.size+1+1+1:=by simp
 have hs0:=pX (((w.alloc (.cells #[.iface T v] 27)).alloc (.cells #[.int .i64 x1,.int .i64 x2] 29)).alloc (.cells #[.int .i64 0] 3)) (.iface T v);have hxb:=((jh (((w.alloc (.cells #[.iface T v] 27)).alloc (.cells #[.int .i64 x1,.int .i64 x2] 29)).alloc (.cells #[.int .i64 0] 3)) (.iface T v)).block (w.heap.size+1) (by simp)).trans (show (((w.alloc (.cells #[.iface T v] 27)).alloc (.cells #[.int .i64 x1,.int .i64 x2] 29)).alloc (.cells #[.int .i64 0] 3)).heap[w.heap.size+1]?=some (.cells #[.int .i64 x1,.int .i64 x2] 29 (0,0)) from (Below.heap_alloc _ _ _ (by simp)).trans (aJ (by simp)));have hob:=((jh (((w.alloc (.cells #[.iface T v] 27)).alloc (.cells #[.int .i64 x1,.int .i64 x2] 29)).alloc (.cells #[.int .i64 0] 3)) (.iface T v)).block (w.heap.size+1+1) (by simp)).trans (show (((w.alloc (.cells #[.iface T v] 27)).alloc (.cells #[.int .i64 x1,.int .i64 x2] 29)).alloc (.cells #[.int .i64 0] 3)).heap[w.heap.size+1+1]?=some (.cells #[.int .i64 0] 3 (0,0)) from aJ (by simp));have hmb:=wu (((w.alloc (.cells #[.iface T v] 27)).alloc (.cells #[.int .i64 x1,.int .i64 x2] 29)).alloc (.cells #[.int .i64 0] 3)) (.iface T v);have hhb:=wo (((w.alloc (.cells #[.iface T v] 27)).alloc (.cells #[.int .i64 x1,.int .i64 x2] 29)).alloc (.cells #[.int .i64 0] 3)) (.iface T v);have HW:=hdz (af (H.out.1.trans ((jh (((w.alloc (.cells #[.iface T v] 27)).alloc (.cells #[.int .i64 x1,.int .i64 x2] 29)).alloc (.cells #[.int .i64 0] 3)) (.iface T v)).mono H.out.1.size)) (K.stay H.out.2.1 (jh (((w.alloc (.cells #[.iface T v] 27)).alloc (.cells #[.int .i64 x1,.int .i64 x2] 29)).alloc (.cells #[.int .i64 0] 3)) (.iface T v))));rw [hX]at hs0 hmb hhb;generalize oF (((w.alloc (.cells #[.iface T v] 27)).alloc (.cells #[.int .i64 x1,.int .i64 x2] 29)).alloc (.cells #[.int .i64 0] 3)) (.iface T v)=W0 at *
 refine wpIn_rangeFunc_ownH rfl (by omega) (gf := 77) (lb:=#[.pointer (some ⟨w.heap.size+1+1+1+1,0,none⟩),.pointer (some ⟨w.heap.size+1+1+1,0,none⟩)]) rfl trivial (enters_of Tryz.func77 (by kernel_rfl) rfl)
  (rJ K _ _ v l W0 H.out.2.2.1 hhb hmb HW.out.2 (3 - 1) (by omega)) (fun h k=>h.trans k) (fun W l o o' _ h h' _=>Kr.put W l o o' h h') (Below.refl _ _) (fun _=>rfl)
  (sK w (w.heap.size+1+1) (w.heap.size+1) (x1,x2)) (fun c pre W=>c=.exit 0 ∧ ∃p y,pre=p++[y]∧dH (x1,x2) y=true∧sK w (w.heap.size+1+1) (w.heap.size+1) (x1,x2) p W) (sH w _ _ _ _ HW.out.1.size) (fun c=>by
   rintro s A C row ⟨hc,p,y,h1,h2,h3⟩ hg hr;exact ⟨hc,p,y,h1,h2,sH w _ _ _ _ HW.out.1.size p A C row h3 hg hr⟩)
  ⟨⟨⟨hob,hxb⟩,by omega,by omega⟩,HW.out.1⟩
  (EQ (fun Bx xv=>#[.agg #[.iface T v],el (x1,x2),.pointer (some ⟨w.heap.size,0,none⟩),.pointer (some ⟨w.heap.size+1,0,none⟩),.int .i64 0,.pointer (some ⟨w.heap.size+1+1,0,none⟩),.pointer (some ⟨Bx,0,none⟩),.agg #[.iface T v],vL (w.heap.size+1+1+1),xv,undef,undef,undef,undef,undef,undef,undef,undef,undef]))
  (tJ _ _) ?assign ?body ?done ?stop
 case assign =>
  rintro lp pre ⟨y1,y2⟩ W K hi hK;gi_wp2
  have hbA:Below W.heap.size W (W.alloc (.cells #[.int .i64 y1,.int .i64 y2] 29)):=bG _;exact hK _ _ (gH hbA) (Kr.below hbA) (hi.stay hbA) ⟨W.heap.size,aB.new W _ _ _,rfl⟩
 case body =>
  rintro lp pre ⟨y1,y2⟩ a' W hlp hr hc ⟨Bx,hx,rfl⟩ hlen;obtain ⟨⟨⟨h1,h2⟩,h3,h4⟩,hB⟩:=hc;have h2':aB W (w.heap.size+1) 29 (.int .i64 x1) (.int .i64 x2):=h2;have c1:=h2'.c0;have c2:=h2'.c1;have d0:=hx.c0;have d1:=hx.c1;have HV:=hdz (af (show sK w (w.heap.size+1+1) (w.heap.size+1) (x1,x2) pre W from ⟨⟨⟨h1,h2⟩,h3,h4⟩,hB⟩) (af hx hlen));clear h1 h2 h2' h3 h4 hB hx hlen hxb hob hmb hhb;gi_wp2
  refine ⟨trivial,(CallsIn.inRound lp (callsIn_wide.2 (qj x1 x2 y1 y2 _))).mono ?_⟩;rintro e w3 ⟨rfl,hb⟩
  cases hlt:BB x1 x2 y1 y2 with
  | true =>
   have HQ:=hdz (af hlt hb);clear hlt hb;gi_wp2
   exact ⟨gH HQ.out.2,rfl,pre,(y1,y2),rfl,HQ.out.1,HV.out.1.stay HQ.out.2⟩
  | false =>
   have hV3:=HV.out.1.stay hb;have e0:=one_cell hV3.1.1.1;have z0:=iQ hV3.1.1.1;have hx3:aB w3 (w.heap.size+1) 29 (.int .i64 x1) (.int .i64 x2):=hV3.1.1.2;have e1:=hx3.c0;have e2:=hx3.c1;have hy3:=HV.out.2.1.stay hb;have e3:=hy3.c0;have e4:=hy3.c1;have hq:pre.count (x1,x2)<16777216:=Nat.lt_of_le_of_lt List.count_le_length (by have:=HV.out.2.2;have:=H.out.2.2.1;omega);have HQ:=hdz (af hV3 hb);clear hV3 hx3 hy3 hb hlt c1 c2 d0 d1;obtain ⟨q,hqe⟩:=aU (pre.count (x1,x2));rw [←hqe]at e0 hq;have HQE:=hdz hqe;clear hqe;by_cases hxy:y1=x1∧y2=x2
   ·obtain ⟨rfl,rfl⟩:=hxy;have hw:wrap64 ((q:Int)+1)=(q:Int)+1:=by unfold wrap64;omega
    gi_wp2
    obtain ⟨⟨⟨h1,h2⟩,h3,h4⟩,hB⟩:=HQ.out.1;refine ⟨(gH HQ.out.2).trans ((KeepsOthers.setCell _ _ _).from _),(Kr.below HQ.out.2).trans (Kr.set h1 (by decide) (by decide) (.inl (by decide)) 0 _),⟨⟨?_,(aH _ _ h4).trans h2⟩,h3,h4⟩,hB.setCell (by exact h3) _⟩;rw [show (((pre++[(y1,y2)]).count (y1,y2):Nat):Int)=(q:Int)+1 by rw [List.count_append,←HQE.out];simp];exact gD h1 _
   ·gi_wp2
    all_goals
     have hne:¬(y1,y2)=(x1,x2):=fun e=>hxy ⟨congrArg Prod.fst e,congrArg Prod.snd e⟩;obtain ⟨⟨⟨h1,h2⟩,h3,h4⟩,hB⟩:=HQ.out.1;refine ⟨gH HQ.out.2,Kr.below HQ.out.2,⟨⟨?_,h2⟩,h3,h4⟩,hB⟩;rw [show (pre++[(y1,y2)]).count (x1,x2)=pre.count (x1,x2) by rw [List.count_append,(List.count_eq_zero (a:=(x1,x2)) (l:=[(y1,y2)])).2 (fun hm=>hne (List.mem_singleton.1 hm).symm),Nat.add_zero]];exact h1
 case done =>
  rintro D xs W hD rfl ⟨⟨⟨h1, -⟩, -⟩,hB⟩ hK;have c0:=one_cell h1;gi_wp2
  refine ⟨by simp,.inl ⟨_,_,rfl,run_takeDeferred hK,?_⟩⟩;exact ⟨.int .i64 (xs.count (x1,x2):Nat),by simp [results,Tryz.results22,go_sem],rfl,hB.trans (belowK_b (w:=w) (Nat.le_refl _) W D _ _ (by omega) hK rfl rfl)⟩
 case stop =>
  rintro D c pre W hD hpre ⟨rfl,p,y,rfl,hxy,⟨⟨h1, -⟩, -⟩,hB⟩ hK;have c0:=one_cell h1;have HC:=hdz (Ag H.out.2.2.2 hpre hxy);clear hpre;gi_wp2
  refine ⟨by simp,.inl ⟨_,_,rfl,run_takeDeferred hK,?_⟩⟩;exact ⟨.int .i64 (p.count (x1,x2):Nat),by simp [results,Tryz.results22,go_sem],by rw [HC.out],hB.trans (belowK_b (w:=w) (Nat.le_refl _) W D _ _ (by omega) hK rfl rfl)⟩
end
end Go.Proofs.YtmeodbjlmjpnbaaGreat
namespace Go.Proofs.YtmeodbjlmjpnbaaGreat
open Go.Sort Go.RowKit Go.Shelf
attribute [local go_sem] Oper.semAt_some
def tV (w:World)(bb rb:Nat)(T2:TypeId)(At2:World→Value→List (Int×Int)→Prop)(lb:List (Int×Int))(pre:List (Int×Int))(W:World):Prop :=
 (∃u,W.heap[bb]?=some (.cells #[.iface T2 u] 27 (0,0))∧At2 W u (lb.drop pre.length)∧lb.take pre.length=pre∧W.heap[rb]?=some (.cells #[.bool false] 4 (0,0)))∧Below w.heap.size w W
theorem zS (At2:World→Value→List (Int×Int)→Prop)(keep:∀{W W':World} {v:Value} {l:List (Int×Int)},At2 W v l→bO NH W W'→W.heap.size≤W'.heap.size→At2 W' v l)(w:World)(bb rb:Nat)(T2:TypeId)(lb:List (Int×Int))(B:Nat)(hB:w.heap.size≤B):OwnFrom B (tV w bb rb T2 At2 lb):=by
 refine OwnFrom.and (fun s X Y row hs hg hr=>?_) (ownFrom_below (Nat.le_refl _) hB);obtain ⟨u,h1,h2,h3,h4⟩:=hs
 have key:∀g,row=some g → ∀cs t z,X.heap[g]?≠some (.cells cs t z):=fun g e cs t z h=>by
  obtain ⟨-,o,ho,hc⟩:=hr g e;rw [h]at ho;cases ho;cases hc
 exact ⟨u,(hg.block _ (lt_of_heap h1) fun e=>key _ e.symm _ _ _ h1).trans h1,keep h2 (bO.grown hg fun g e cs t h=>absurd h (key g e _ _ _)) hg.size,h3,(hg.block _ (lt_of_heap h4) fun e=>key _ e.symm _ _ _ h4).trans h4⟩
theorem tV.stay {At2:World→Value→List (Int×Int)→Prop}{w:World}{bb rb:Nat}{T2:TypeId}{lb pre:List (Int×Int)}{W W':World}(h:tV w bb rb T2 At2 lb pre W)(stay:∀{W W':World} {v:Value} {l:List (Int×Int)},At2 W v l→Below W.heap.size W W'→At2 W' v l)(hb:Below W.heap.size W W'):tV w bb rb T2 At2 lb pre W':=by
 obtain ⟨⟨u,h1,h2,h3,h4⟩,h5⟩:=h;exact ⟨⟨u,(hb.block _ (lt_of_heap h1)).trans h1,stay h2 hb,h3,(hb.block _ (lt_of_heap h4)).trans h4⟩,h5.trans (hb.mono h5.size)⟩
section
variable {k k2:Int}{T T2:TypeId}{fI fM fN fP fS fI2 fM2 fN2 fP2 fS2:FuncId}{At At2:World→Value→List (Int×Int)→Prop}
theorem DV (K:iT k T fI fM fN fP fS At)(K2:iT k2 T2 fI2 fM2 fN2 fP2 fS2 At2)(v v2:Value)(la lb:List (Int×Int))(w:World)(ha:At w v la)(ha2:At2 w v2 lb)(hla:la.length<16777216) :
  Calls Tryz.prog 23 #[.agg #[.iface T v],.agg #[.iface T2 v2]] w fun e w'=>e=.returned (.bool (decide (la=lb)))∧Below w.heap.size w w':=by
 have hbA:Below w.heap.size w (((w.alloc (.cells #[.iface T v] 27)).alloc (.cells #[.iface T2 v2] 27)).alloc (.cells #[.bool false] 4)):=((bG _).alloc (by simp) _).alloc (by simp;omega) _;have hX:(((w.alloc (.cells #[.iface T v] 27)).alloc (.cells #[.iface T2 v2] 27)).alloc (.cells #[.bool false] 4)).heap.size=w.heap.size+1+1+1:=by simp
 have hfa:(((w.alloc (.cells #[.iface T v] 27)).alloc (.cells #[.iface T2 v2] 27)).alloc (.cells #[.bool false] 4)).heap[w.heap.size]?=some (.cells #[.iface T v] 27 (0,0)):=(Below.heap_alloc _ _ _ (by simp;omega)).trans ((Below.heap_alloc _ _ _ (by simp)).trans (heap_alloc_new w _));have hfb:(((w.alloc (.cells #[.iface T v] 27)).alloc (.cells #[.iface T2 v2] 27)).alloc (.cells #[.bool false] 4)).heap[w.heap.size+1]?=some (.cells #[.iface T2 v2] 27 (0,0)):=(Below.heap_alloc _ _ _ (by simp)).trans (aJ (by simp));have hfr:(((w.alloc (.cells #[.iface T v] 27)).alloc (.cells #[.iface T2 v2] 27)).alloc (.cells #[.bool false] 4)).heap[w.heap.size+1+1]?=some (.cells #[.bool false] 4 (0,0)):=aJ (by simp);have H:=hdz (af hbA (af (K.stay ha hbA) (af (K2.stay ha2 hbA) hla)));have HF:=hdz (af hfa (af hfb (af hfr hX)));clear hbA ha hla ha2 hfa hfb hfr hX;obtain ⟨n,hn⟩:=aU (la.length);obtain ⟨m,hm⟩:=aU (lb.length);have HN:=hdz (af hn hm);clear hn hm;obtain ⟨res,hres⟩:=aU (decide (la=lb));rw [←hres];have HR:=hdz hres;clear hres;refine (callsIn_wide (n:=3)).1 ?_;refine callsIn_of_wp_marks Tryz.func23 rfl trivial ?_ rfl;simp only [Tryz.ntmps23,List.size_toArray,List.length_cons,List.length_nil,Nat.reduceAdd,Nat.reduceSub,Array.replicate_succ,Array.replicate_zero,List.push_toArray,List.append_toArray,List.nil_append,List.cons_append];gi_wp2
 generalize (((w.alloc (.cells #[.iface T v] 27)).alloc (.cells #[.iface T2 v2] 27)).alloc (.cells #[.bool false] 4))=w1 at *;have ca:=one_cell HF.out.1;have cb:=one_cell HF.out.2.1;have hmix:Tryz.prog.follows Departure.mixedOrders=true:=by kernel_rfl
 have HZ:=hdz ((Below.refl w1.heap.size w1).drew);have HSA:=hdz (fun W (hb:Below w1.heap.size w1 W)=>Ce K v la W (K.stay H.out.2.1 hb));have HSB:=hdz (fun W (hb:Below w1.heap.size w1 W)=>Ce K2 v2 lb W (K2.stay H.out.2.2.1 hb));have HC:=hdz (fun W (hb:Below w1.heap.size w1 W)=>af (one_cell ((hb.block _ (lt_of_heap HF.out.1)).trans HF.out.1)) (one_cell ((hb.block _ (lt_of_heap HF.out.2.1)).trans HF.out.2.1)));refine wpIn_mono (Q:=NoPanic _) ?_ NoPanic.imp
 gi_region_with_o (first
  | (refine ⟨trivial,?_⟩;gi_at_call 27;with_reducible refine (callsIn_wide.2 (HSA.out _ HZ.out)).mono ?_;rintro e wA ⟨rfl,hbA⟩;rw [←HN.out.1];have hz:=HZ.out.trans (hbA.mono HZ.out.size);clear HZ;have HZ:=hdz hz;obtain ⟨ca1,cb1⟩:=HC.out _ hz;clear hz hbA)
  | (refine ⟨trivial,?_⟩;gi_at_call 27;with_reducible refine (callsIn_wide.2 (HSB.out _ HZ.out)).mono ?_;rintro e wA ⟨rfl,hbA⟩;rw [←HN.out.2];have hz:=HZ.out.trans (hbA.mono HZ.out.size);clear HZ;have HZ:=hdz hz;obtain ⟨ca2,cb2⟩:=HC.out _ hz;clear hz hbA))
 all_goals
  refine NoPanic.normal ?_;simp only [Act.put,List.setIfInBounds_toArray];have hz:=HZ.out;have hfr:=(hz.block _ (lt_of_heap HF.out.2.2.1)).trans HF.out.2.2.1;have cr:=one_cell hfr;have zr:=iQ hfr;by_cases hnm:n=m
  case' neg =>
   have e1:((n:Int) != (m:Int))=true:=by simp;omega
   have e2:(n != m)=true:=by simp;omega
   have hk:=one_cell (gD hfr (.bool false));have HE:=hdz ((H.out.1.trans (hz.mono H.out.1.size)).setCell (by show w.heap.size≤w.heap.size+1+1;omega) (.bool false):Below w.heap.size w (wA.setCell ⟨w.heap.size+1+1,0,none⟩ (.bool false)));have HR2:=hdz (show res=false by rw [HR.out];exact decide_eq_false fun e=>hnm (by rw [HN.out.1,HN.out.2,e]));clear hz hfr hnm HZ HSA HSB HC;gi_wp2
   exact ⟨.bool false,by simp [results,Tryz.results23,go_sem,hk],by rw [HR2.out],HE.out⟩
  case' pos =>
   have e1:((n:Int) != (m:Int))=false:=by simp;omega
   have e2:(n != m)=false:=by simp;omega
   have HE:=hdz (af (H.out.1.trans (hz.mono H.out.1.size)) (af (K.stay H.out.2.1 hz) (af (K2.stay H.out.2.2.1 hz) (af hfr ((hz.block _ (lt_of_heap HF.out.2.1)).trans HF.out.2.1)))));have HNM:=hdz hnm;clear hz hfr hnm HZ HSA HSB HC cr zr;gi_wp2
   refine ⟨trivial,(callsIn_wide.2 (rG T v _)).mono ?_⟩;rintro e w2 ⟨rfl,rfl⟩;gi_wp2
   have hlo:=jh wA (.iface T v);have hs0:=pX wA (.iface T v);have hmb:=wu wA (.iface T v);have hhb:=wo wA (.iface T v);have hw1:w.heap.size+1+1<wA.heap.size:=lt_of_heap HE.out.2.2.2.1;have HW:=hdz (af (HE.out.1.trans (hlo.mono HE.out.1.size)) (af (K.stay HE.out.2.1 hlo) (af (K2.stay HE.out.2.2.1 hlo) (af ((hlo.block _ (lt_of_heap HE.out.2.2.2.1)).trans HE.out.2.2.2.1) ((hlo.block _ (lt_of_heap HE.out.2.2.2.2)).trans HE.out.2.2.2.2)))));clear hlo;generalize oF wA (.iface T v)=W0 at *
   refine wpIn_rangeFunc_ownH rfl (by omega) (gf := 77) (lb:=#[.pointer (some ⟨wA.heap.size+1,0,none⟩),.pointer (some ⟨wA.heap.size,0,none⟩)]) rfl trivial (enters_of Tryz.func77 (by kernel_rfl) rfl)
    (rJ K _ _ v la W0 H.out.2.2.2 hhb hmb HW.out.2.1 (3 - 1) (by omega)) (fun h k=>h.trans k) (fun W l o o' _ h h' _=>Kr.put W l o o' h h') (Below.refl _ _) (fun _=>rfl)
    (tV w (w.heap.size+1) (w.heap.size+1+1) T2 At2 lb) (fun c pre W=>(c=.ret ∧ ∃p y,pre=p++[y]∧lb[p.length]?≠some y)∧W.heap[w.heap.size+1+1]?=some (.cells #[.bool false] 4 (0,0))∧Below w.heap.size w W) (zS At2 (fun h hk hs=>K2.keep h hk hs) w _ _ _ _ _ HW.out.1.size)
    (fun c=>OwnFrom.and (ownFrom_pure _ fun (pre:List (Int×Int))=>c=.ret ∧ ∃p y,pre=p++[y]∧lb[p.length]?≠some y) (OwnFrom.and (rP _ _ _ _) (ownFrom_below (Nat.le_refl _) HW.out.1.size)))
    ⟨⟨v2,HW.out.2.2.2.2,HW.out.2.2.1,rfl,HW.out.2.2.2.1⟩,HW.out.1⟩
    (EQ (fun Bx xv=>#[.agg #[.iface T v],.agg #[.iface T2 v2],.pointer (some ⟨w.heap.size,0,none⟩),.pointer (some ⟨w.heap.size+1,0,none⟩),.pointer (some ⟨w.heap.size+1+1,0,none⟩),.pointer (some ⟨Bx,0,none⟩),undef,undef,.agg #[.iface T v],.int .i64 (n:Int),.agg #[.iface T2 v2],.int .i64 (m:Int),.bool false,.agg #[.iface T v],vL wA.heap.size,xv,undef,undef,undef,undef,undef,undef,undef,undef,undef,undef,undef,undef,undef]))
    (tJ _ _) ?assign ?body ?done ?stop
   case assign =>
    rintro lp pre ⟨y1,y2⟩ W K hi hK;gi_wp2
    have hbA:Below W.heap.size W (W.alloc (.cells #[.int .i64 y1,.int .i64 y2] 29)):=bG _;exact hK _ _ (gH hbA) (Kr.below hbA) (hi.stay (fun h hb=>K2.stay h hb) hbA) ⟨W.heap.size,aB.new W _ _ _,rfl⟩
   case body =>
    rintro lp pre ⟨y1,y2⟩ a' W hlp hr ⟨⟨u,hbb,hat,htk,hrr⟩,hB⟩ ⟨Bx,hx,rfl⟩ hlen;have hlen2:pre.length<lb.length:=by have h1:=HN.out;have h2:=HNM.out;omega
    obtain ⟨z1,z2,r,hzr⟩:∃z1 z2 r,lb.drop pre.length=(z1,z2)::r:=⟨_,_,_,List.drop_eq_getElem_cons hlen2⟩;have hget:lb[pre.length]?=some (z1,z2):=by have:=congrArg (fun q=>q[0]?) hzr;simpa using this
    have hrr2:lb.drop (pre.length+1)=r:=by have:=congrArg List.tail hzr;simpa using this
    have hrl:((z1,z2)::r).length<16777216:=by rw [←hzr,List.length_drop];have h1:=HN.out;have h2:=HNM.out;have h3:=H.out.2.2.2;omega
    rw [hzr]at hat;have c1:=one_cell hbb;have HV:=hdz (af hbb (af hat (af htk (af hrr (af hB (af hx (af hget (af hrr2 hrl))))))));clear hbb hat htk hrr hB hx hlen hlen2 hzr hget hrr2 hrl hmb hhb;gi_wp2
    refine ⟨trivial,(CallsIn.inRound lp (callsIn_wide.2 (G5 K2 u ((z1,z2)::r) _ HV.out.2.1 (by simp)))).mono ?_⟩;rintro e w3 ⟨he,hb⟩;rw [show hd ((z1,z2)::r)=(z1,z2) from rfl]at he;subst he;have hb3:=hb.alloc hb.size (.cells #[.int .i64 z1,.int .i64 z2] 29);have hbb3:=(hb3.block _ (lt_of_heap HV.out.1)).trans HV.out.1;have hrr3:=(hb3.block _ (lt_of_heap HV.out.2.2.2.1)).trans HV.out.2.2.2.1;have hx3:=HV.out.2.2.2.2.2.1.stay hb3;have c3:=one_cell hbb3;have r3:=one_cell hrr3;have z3:=iQ hrr3;have d0:=hx3.c0;have d1:=hx3.c1;have HM:=hdz (af hb3 (af (K2.stay HV.out.2.1 hb3) (af hbb3 hrr3)));clear hb hb3 hbb3 hrr3 hx3;by_cases hzy:z1=y1∧z2=y2
    ·obtain ⟨rfl,rfl⟩:=hzy;gi_wp2
     refine ⟨trivial,(CallsIn.inRound lp (callsIn_wide.2 (Hg K2 u ((z1,z2)::r) _ HM.out.2.1 HV.out.2.2.2.2.2.2.2.2 (by simp)))).mono ?_⟩;rintro e w4 ⟨v3,rfl,ha4,hb4⟩;rw [List.tail_cons]at ha4;have hb5:=HM.out.1.trans (hb4.mono HM.out.1.size);have hbb4:=(hb4.block _ (lt_of_heap HM.out.2.2.1)).trans HM.out.2.2.1;have hrr4:=(hb4.block _ (lt_of_heap HM.out.2.2.2)).trans HM.out.2.2.2;have z4:=iQ hbb4;have c4:=one_cell hbb4;have HE4:=hdz (af hb5 (af hbb4 (af hrr4 (K2.keep ha4 (bO.set hbb4 (by decide) 0 (.iface T2 v3)) (by simp [World.setCell])))));clear hb4 hb5 hbb4 hrr4 ha4;gi_wp2
     have hl9:(pre++[(z1,z2)]).length=pre.length+1:=by simp
     refine ⟨(gH HE4.out.1).trans ((KeepsOthers.setCell _ _ _).from _),(Kr.below HE4.out.1).trans (Kr.set HE4.out.2.1 (by decide) (by decide) (.inr (by omega)) 0 _),⟨v3,gD HE4.out.2.1 _,?_,?_,(aH _ _ (by omega)).trans HE4.out.2.2.1⟩,(HV.out.2.2.2.2.1.trans (HE4.out.1.mono HV.out.2.2.2.2.1.size)).setCell (by show w.heap.size≤w.heap.size+1;omega) _⟩
     ·rw [hl9,HV.out.2.2.2.2.2.2.2.1];exact HE4.out.2.2.2
     ·rw [hl9,List.take_add_one,HV.out.2.2.1,HV.out.2.2.2.2.2.2.1];rfl
    ·have hne:¬(z1,z2)=(y1,y2):=fun e=>hzy ⟨congrArg Prod.fst e,congrArg Prod.snd e⟩
     have hsp:(z1=y1 ∧ ¬z2=y2) ∨ ¬z1=y1:=by
      by_cases h:z1=y1
      ·exact .inl ⟨h,fun h2=>hzy ⟨h,h2⟩⟩
      ·exact .inr h
     clear hzy;have HNE:=hdz hne;clear hne;rcases hsp with ⟨rfl,hq⟩|hq
     all_goals
      gi_wp2
      refine ⟨(gH HM.out.1).trans ((KeepsOthers.setCell _ _ _).from _),⟨rfl,pre,_,rfl,?_⟩,gD HM.out.2.2.2 _,(HV.out.2.2.2.2.1.trans (HM.out.1.mono HV.out.2.2.2.2.1.size)).setCell (by show w.heap.size≤w.heap.size+1+1;omega) _⟩;rw [HV.out.2.2.2.2.2.2.1];exact fun e=>HNE.out (Option.some.inj e)
   case done =>
    rintro D xs W hD rfl ⟨⟨u,hbb, -,htk,hrr⟩,hB⟩ hK;have cr2:=one_cell hrr;have zr2:=iQ hrr;have hrD:(w.heap.size+1+1)≠D:=by omega
    have hk:=one_cell ((World.putObj_heap_other (o := .deferred none) hrD).trans (gD hrr (.bool true)));have HRR:=hdz (show res=true by rw [HR.out];refine decide_eq_true ?_;rw [←htk,List.take_of_length_le];have h1:=HN.out;have h2:=HNM.out;omega);have hK2:(W.setCell ⟨w.heap.size+1+1,0,none⟩ (.bool true)).heap[D]?=some (.deferred (some [])):=(aH _ _ fun e=>hrD e.symm).trans hK;gi_wp2
    refine ⟨by simp,.inl ⟨_,_,rfl,run_takeDeferred hK2,?_⟩⟩;exact ⟨.bool true,by simp [results,Tryz.results23,go_sem,hk],by rw [HRR.out],(hB.setCell (by show w.heap.size≤w.heap.size+1+1;omega) _).trans (belowK_b (w:=w) (Nat.le_refl _) _ D _ _ (by omega) hK2 rfl rfl)⟩
   case stop =>
    rintro D c pre W hD hpre ⟨⟨rfl,p,y,rfl,hne⟩,hrr,hB⟩ hK;have hrD:(w.heap.size+1+1)≠D:=by omega
    have hk:=one_cell ((World.putObj_heap_other (o := .deferred none) hrD).trans hrr)
    have HRR:=hdz (show res=false by
     rw [HR.out];refine decide_eq_false fun e=>hne ?_;obtain ⟨r,hr⟩:=hpre;rw [←e,←hr];simp)
    clear hpre hne;gi_wp2
    refine ⟨by simp,.inl ⟨_,_,rfl,run_takeDeferred hK,?_⟩⟩;exact ⟨.bool false,by simp [results,Tryz.results23,go_sem,hk],by rw [HRR.out],hB.trans (belowK_b (w:=w) (Nat.le_refl _) W D _ _ (by omega) hK rfl rfl)⟩
end
end Go.Proofs.YtmeodbjlmjpnbaaGreat
namespace Go.Proofs.YtmeodbjlmjpnbaaGreat
open Go.RowKit
theorem tH (w:World):(callFunc 166 #[]).run Tryz.prog w=.ok (.value (.tuple #[])) w:=run_call_mark0 Tryz.func166 (by kernel_rfl) (by kernel_rfl) (by kernel_rfl) .disable (by kernel_rfl) w
theorem vN (w:World):(callFunc 168 #[]).run Tryz.prog w=.ok (.value (.tuple #[])) w:=run_call_mark0 Tryz.func168 (by kernel_rfl) (by kernel_rfl) (by kernel_rfl) .enable (by kernel_rfl) w
theorem zG (a:Addr)(w:World):(callFunc 169 #[.pointer (some a)]).run Tryz.prog w=.ok (.value (.tuple #[])) w:=run_call_marked Tryz.func169 (by kernel_rfl) (by kernel_rfl) (by kernel_rfl) .acquire (by kernel_rfl) a w
theorem zw (a:Addr)(w:World):(callFunc 171 #[.pointer (some a)]).run Tryz.prog w=.ok (.value (.tuple #[])) w:=run_call_marked Tryz.func171 (by kernel_rfl) (by kernel_rfl) (by kernel_rfl) .releaseMerge (by kernel_rfl) a w
theorem AY (a:Addr)(x:Value)(u:FrameMode)(w:World)(hc:w.cell? a=some x)(hz:w.frozen? a=false) :
  CallsD Tryz.prog 128 #[.pointer (some a),.bool true] u w fun e u' w'=>u'=u∧(e=.returned (.tuple #[])∧w'=w.drew.setCell a (.int .u32 1)):=by
 have hc':w.drew.cell? a=some x:=by go_simp
 have hz':w.drew.frozen? a=false:=by go_simp
 have hst:=run_call_store (P:=Tryz.prog) Tryz.func152 (by kernel_rfl) (by kernel_rfl) (by kernel_rfl) (by kernel_rfl) (k := .u32) (y:=1) hc' hz';go_enter_d Tryz.func128,Tryz.ntmps128
 go_wp2
 go_region_calls
 all_goals (go_end0;exact ⟨rfl,rfl⟩)
theorem AR (a:Addr)(u:FrameMode)(w:World)(hc:w.cell? a=some (.int .i32 1))(hz:w.frozen? a=false) :
  CallsD Tryz.prog 127 #[.pointer (some a)] u w fun e u' w'=>u'=u∧(e=.returned (.tuple #[])∧w'=w.setCell a (.int .i32 0)):=by
 have hd:=tH;have he:=vN;have hr:=zw;have hadd:=run_call_add (P:=Tryz.prog) Tryz.func172 (by kernel_rfl) (by kernel_rfl) (by kernel_rfl) .i32 (by kernel_rfl) (y := -1) (s:=0) hc hz (by simp [go_sem];rfl);have hcv:=run_convert_to_unsafe (P:=Tryz.prog) (src := 305) (dst := 309) Tryz.underlying305 Tryz.underlying309 (by kernel_rfl) hc;go_enter_d Tryz.func127,Tryz.ntmps127
 go_wp2
 go_end0
 go_wp2
 all_goals (go_end0;exact ⟨rfl,rfl⟩)
theorem CG (a:Addr)(w:World)(hc:w.cell? a=some (.int .i32 0))(hz:w.frozen? a=false) :
  Calls Tryz.prog 126 #[.pointer (some a)] w fun e w'=>e=.returned (.tuple #[])∧w'=w.setCell a (.int .i32 1):=by
 have hd:=tH;have he:=vN;have ha:=zG;have hcas:=run_call_cas_hit (P:=Tryz.prog) Tryz.func167 (by kernel_rfl) (by kernel_rfl) (by kernel_rfl) .i32 (by kernel_rfl) (y:=1) hc hz;have hc':(w.setCell a (.int .i32 1)).cell? a=some (.int .i32 1):=World.cell?_setCell_same w a _ hc;have hcv:=run_convert_to_unsafe (P:=Tryz.prog) (src := 305) (dst := 309) Tryz.underlying305 Tryz.underlying309 (by kernel_rfl) hc';go_enter Tryz.func126,Tryz.ntmps126
 go_wp2
 first|go_end0|(simp only [Exit.inBlock,Exit.then];refine bodyPost_ret (results_none rfl _ _ _) rfl ?_)|refine bodyPost_ret (results_none rfl _ _ _) rfl ?_
 go_wp2
 all_goals (go_end0;exact ⟨rfl,rfl⟩)
theorem uW (a:Addr)(d:Int)(w:World)(h:w.cell? a=some (.int .u32 d)) :
  Calls Tryz.prog 98 #[.pointer (some a)] w fun e w'=>e=.returned (.bool (d != 0))∧w'=w:=by
 have hl:=run_call_load (P:=Tryz.prog) Tryz.func125 (by kernel_rfl) (by kernel_rfl) (by kernel_rfl) .u32 (by kernel_rfl) h;go_enter Tryz.func98,Tryz.ntmps98
 go_wp2
 go_ret
 exact ⟨rfl,rfl⟩
theorem Dn (b off:Nat)(fv:Value)(w:World)(h0:w.cell? ⟨b,off,none⟩=some (.int .u32 1)) :
  Calls Tryz.prog 56 #[.pointer (some ⟨b,off,none⟩),fv] w fun e w'=>e=.returned (.tuple #[])∧w'=w:=by
 have hnot:∀(x:Bool) (w:World),(Op.unary .not (.bool x)).run Tryz.prog w=.ok (.bool (!x)) w:=fun _ _=>rfl;go_enter Tryz.func56,Tryz.ntmps56
 go_wp2_with fail
 ((with_reducible refine (uW _ 1 _ h0).mono ?_);rintro e w' ⟨rfl,rfl⟩);go_wp2
 go_end0
 exact ⟨rfl,rfl⟩
end Go.Proofs.YtmeodbjlmjpnbaaGreat
namespace Go.Proofs.YtmeodbjlmjpnbaaGreat
open Go.Sort Go.RowKit
def Dk (w:World)(b:Nat)(d s:Int)(h v:Value)(k:Int):Prop:=w.heap[b]?=some (.cells #[.int .u32 d,.int .i32 s,.int .u32 0,h,v,.int .i64 k] 145 (0,0))
section
variable {w w':World}{b:Nat}{d s k:Int}{h v:Value}
theorem Dk.lt (H:Dk w b d s h v k):b<w.heap.size:=(Array.getElem?_eq_some_iff.1 H).1
theorem Dk.c0 (H:Dk w b d s h v k):w.cell? ⟨b,0,none⟩=some (.int .u32 d):=by simp [World.cell?,show w.heap[b]?=_ from H]
theorem Dk.c1 (H:Dk w b d s h v k):w.cell? ⟨b,1,none⟩=some (.int .i32 s):=by simp [World.cell?,show w.heap[b]?=_ from H]
theorem Dk.c3 (H:Dk w b d s h v k):w.cell? ⟨b,3,none⟩=some h:=by simp [World.cell?,show w.heap[b]?=_ from H]
theorem Dk.c4 (H:Dk w b d s h v k):w.cell? ⟨b,4,none⟩=some v:=by simp [World.cell?,show w.heap[b]?=_ from H]
theorem Dk.c5 (H:Dk w b d s h v k):w.cell? ⟨b,5,none⟩=some (.int .i64 k):=by simp [World.cell?,show w.heap[b]?=_ from H]
theorem Dk.z (H:Dk w b d s h v k)(j:Nat):w.frozen? ⟨b,j,none⟩=false:=by simp [World.frozen?,show w.heap[b]?=_ from H]
theorem Dk.stay (H:Dk w b d s h v k)(hb:Below w.heap.size w w'):Dk w' b d s h v k:=(hb.block b H.lt).trans H
theorem Dk.but {g:Nat}(H:Dk w b d s h v k)(hb:But g w w')(hg:b≠g):Dk w' b d s h v k:=(hb.block b H.lt hg).trans H
theorem heap_set {w:World}{b j:Nat}{cs:Array Value}{t:TypeId}{z:Nat×Nat}(h:w.heap[b]?=some (.cells cs t z))(u:Value):(w.setCell ⟨b,j,none⟩ u).heap[b]?=some (.cells (cs.setIfInBounds j u) t z):=by
 obtain ⟨hlt,hk⟩:=Array.getElem?_eq_some_iff.1 h;show (w.heap.modify b _)[b]?=_;rw [Array.getElem?_eq_getElem (by rw [Array.size_modify];exact hlt),Array.getElem_modify_self,hk];rfl
theorem Dk.set0 (H:Dk w b d s h v k)(d':Int):Dk (w.setCell ⟨b,0,none⟩ (.int .u32 d')) b d' s h v k:=heap_set H _
theorem Dk.set1 (H:Dk w b d s h v k)(s':Int):Dk (w.setCell ⟨b,1,none⟩ (.int .i32 s')) b d s' h v k:=heap_set H _
theorem Dk.Hz (H:Dk w b d s h v k)(h':Value):Dk (w.setCell ⟨b,3,none⟩ h') b d s h' v k:=heap_set H _
theorem Dk.H8 (H:Dk w b d s h v k)(v':Value):Dk (w.setCell ⟨b,4,none⟩ v') b d s h v' k:=heap_set H _
theorem Dk.H9 (H:Dk w b d s h v k)(k':Int):Dk (w.setCell ⟨b,5,none⟩ (.int .i64 k')) b d s h v k':=heap_set H _
theorem Row.but {A:Option Addr}{xs:List (Int×Int)}{g:Nat}(H:Row w A xs)(hb:But g w w')(hg:∀a,A=some a→a.block≠g):Row w' A xs:=fun hn=>by
 obtain ⟨c,o,e,hc⟩:=H hn;have hne:=hg _ e;exact ⟨c,o,e,fun j u hu=>by have:=hc j u hu;rw [hb.cell (block_lt_of_cell this) hne];exact this⟩
theorem But.drew (g:Nat)(w:World):But g w w.drew:=But.aV ((Below.refl _ _).drew)
theorem But.BS {g:Nat}(H:But g w w')(off:Nat)(u:Value):But g w (w'.setCell ⟨g,off,none⟩ u):=H.trans (But.set g off w' u)
end
theorem Own.empty (w:World)(base:Nat)(h:base≤w.heap.size):Own (w.alloc (.cells #[] 29)) base (.slice (some ⟨w.heap.size,0,Option.none⟩) 0 0) [] :=
 ⟨rfl,.inr ⟨w.heap.size,0,#[],rfl,h,heap_alloc_new w _,Nat.le_refl _,by unfold maxLen;omega,rfl,rfl⟩⟩
def EX (xs:List (Int×Int))(w:World)(e:Ending)(w':World):Prop:=∃v,e=.returned v∧Own w' w.heap.size v xs∧Below w.heap.size w w'
theorem BF (w:World):Calls Tryz.prog 58 #[.slice none 0 0] w fun e w'=>e=.returned (.slice none 0 0)∧w'=w:=by
 have q22:∀(w:World) (a:Option Addr) (n c n' c':Nat),(binOp .eql 22 (.slice a n c) (.slice none n' c')).run Tryz.prog w=.ok (.bool a.isNone) w:=fun w a n c n' c'=>Lib.run_eql_slice_nil w _ _ a n c n' c' Tryz.underlying22;go_enter Tryz.func58,Tryz.ntmps58
 go_wp2_with fail
 go_ret
 exact ⟨rfl,rfl⟩
theorem DW (w:World):Calls Tryz.prog 58 #[.slice none 0 0] w (EX [] w) :=
 (BF w).mono fun e w' ⟨h1,h2⟩=>⟨_,h1,by rw [h2];exact Own.none _ _,by rw [h2];exact Below.refl _ _⟩
def Fy (n:Nat)(xs:List (Int×Int))(w:World)(e:Ending)(w':World):Prop :=
 ∃g c,e=.returned (.slice (some ⟨g,0,none⟩) n c)∧Own w' w.heap.size (.slice (some ⟨g,0,none⟩) n c) xs∧w.heap.size≤g∧n≤c∧c≤9223372036854775807∧Below w.heap.size w w'
theorem zY (w:World)(base g0:Nat)(ys:List (Int×Int))(a:Addr)(c n:Nat)(hn:n=ys.length)(hown:Own w base (.slice (some ⟨g0,0,none⟩) 0 0) [])(hr:Row w (some a) ys)(hlen:ys.length<2147483648)(hb:base≤w.heap.size) :
  ∃g c' w',(Builtin.append_ #[22, 22] 22 #[.slice (some ⟨g0,0,none⟩) 0 0,.slice (some a) n c]).run Tryz.prog w=.ok (.slice (some ⟨g,0,none⟩) n c') w'∧Own w' base (.slice (some ⟨g,0,none⟩) n c') ys∧w.grownBy w' (some g0)∧base≤g∧n≤c'∧c'≤9223372036854775807:=by
 subst hn;obtain ⟨i0,hi,hz0,hz1,hz2⟩:=info_parts Gr
 have step:(∀j u,(cellsE ys)[j]?=some u→w.cell? (a.add j)=some u) → ∃g c' w',(Builtin.append_ #[22, 22] 22 #[.slice (some ⟨g0,0,none⟩) 0 0,.slice (some a) ys.length c]).run Tryz.prog w=.ok (.slice (some ⟨g,0,none⟩) ys.length c') w'∧Own w' base (.slice (some ⟨g,0,none⟩) ys.length c') ys∧w.grownBy w' (some g0)∧base≤g∧ys.length≤c'∧c'≤9223372036854775807:=by
  intro hc;obtain ⟨v',w',h1,h2,h3,h4,_⟩:=run_append_own_at (P:=Tryz.prog) w base 22 22 29 i0 _ 2 16 Tryz.underlying22 hi hz0 hz1 hz2 rfl (by omega) _ 0 (cellsE []) hown a ys.length c (cellsE ys) (oJ ys) hc (xR ys) (by unfold maxLen;omega) (by omega) hb;rw [Nat.zero_add]at h2;have h5:¬v'=.slice none 0 0:=fun e=>by have:=(h4.1 e).1;cases this
  rcases h2.2 with ⟨e,_⟩|⟨g,cap,cur,rfl,hg,hh,hcap,hm,hs⟩
  ·exact absurd e h5
  ·exact ⟨g,cap,w',h1,h2,h3,hg,hcap,by unfold maxLen at hm;omega⟩
 by_cases h0:0<ys.length
 ·obtain ⟨b,o,e,hc⟩:=hr h0
  cases e
  exact step (fun j u hu=>by rw [add_plain];exact hc j u hu)
 ·obtain rfl:ys=[]:=List.eq_nil_of_length_eq_zero (by omega);exact step (fun j u hu=>by simp [cellsE]at hu)
theorem A8 (a:Addr)(xs:List (Int×Int))(n c:Nat)(w:World)(hn:n=xs.length)(hl:n<1073741823)(hr:Row w (some a) xs) :
  Calls Tryz.prog 58 #[.slice (some a) n c] w (Fy n xs w):=by
 obtain ⟨g,c',w',hrun,hown,hgb,h1,h2,h3⟩:=zY _ w.heap.size _ xs a c n hn (Own.empty w w.heap.size (Nat.le_refl _)) (hr.below (bG _)) (by omega) (by simp);have hb:Below w.heap.size w w':=below_grown (bG _) hgb (by simp) (fun g hg=>by simp at hg;omega);have H:=hdz (af hown (af h1 (af h2 (af h3 hb))));clear hown hgb hb hr hn h1 h2 h3;have q22:∀(w:World) (a:Option Addr) (n c n' c':Nat),(binOp .eql 22 (.slice a n c) (.slice none n' c')).run Tryz.prog w=.ok (.bool a.isNone) w:=fun w a n c n' c'=>Lib.run_eql_slice_nil w _ _ a n c n' c' Tryz.underlying22;go_enter Tryz.func58,Tryz.ntmps58
 go_wp2_with (at_builtin;refine wpList_append_run rfl _ _ _ rfl _ _ _ _ rfl rfl hrun ?_)
 go_ret
 exact ⟨g,c',rfl,H.out.1,H.out.2⟩
theorem Cx (A:Option Addr)(xs:List (Int×Int))(n c:Nat)(w:World)(hn:n=xs.length)(hl:n<1073741823)(hr:Row w A xs)(hc:n≤c)(hA:A=none→c=0) :
  Calls Tryz.prog 58 #[.slice A n c] w (EX xs w):=by
 cases A with
 | some a=>exact (A8 a xs n c w hn hl hr).mono fun e w' ⟨g,c',he,own,_,_,_,hb⟩=>⟨_,he,own,hb⟩
 | none =>
  obtain rfl:=hA rfl;obtain rfl:n=0:=by omega
  obtain rfl:xs=[]:=List.eq_nil_of_length_eq_zero hn.symm;exact DW w
theorem Dg (b off:Nat)(v:Int)(w:World)(h:w.cell? ⟨b,off,none⟩=some (.int .i64 v)):Calls Tryz.prog 55 #[.pointer (some ⟨b,off,none⟩)] w fun e w' =>
  e=.returned (.int .i64 v)∧w'=w:=by
 have hl:=run_call_load (P:=Tryz.prog) Tryz.func97 (by kernel_rfl) (by kernel_rfl) (by kernel_rfl) .i64 (by kernel_rfl) h;go_enter Tryz.func55,Tryz.ntmps55
 go_wp2
 go_ret
 exact ⟨rfl,rfl⟩
theorem CY (b off:Nat)(v:Int)(w:World)(h:w.cell? ⟨b,off,none⟩=some (.int .i64 v))(hz:w.frozen? ⟨b,off,none⟩=false)(h0 : -4611686018427387904≤v)(h1:v≤4611686018427387904) :
  Calls Tryz.prog 100 #[.pointer (some ⟨b,off,none⟩),.int .i64 1] w fun e w'=>e=.returned (.int .i64 (v+1))∧w'=w.setCell ⟨b,off,none⟩ (.int .i64 (v+1)):=by
 have hadd:=run_call_add (P:=Tryz.prog) Tryz.func129 (by kernel_rfl) (by kernel_rfl) (by kernel_rfl) .i64 (by kernel_rfl) (y:=1) (s:=v+1) h hz (by simp [go_sem,IntKind.wrap_i64];omega);clear h hz;go_enter Tryz.func100,Tryz.ntmps100
 go_wp2
 go_ret
 exact ⟨rfl,rfl⟩
structure xY (w:World)(b:Nat)(A:Option Addr)(c:Nat)(l:List (Int×Int)):Prop where
 blk:Dk w b 1 0 .nilIface (.slice A l.length c) 1
 row:Row w A l
 le:l.length≤c
 max:c≤9223372036854775807
 nil:A=none→c=0
 off:∀a,A=some a→a.block≠b
 lt:∀a,A=some a→a.block<w.heap.size
theorem xY.stay {w w':World}{b:Nat}{A:Option Addr}{c:Nat}{l:List (Int×Int)}(h:xY w b A c l)(hb:Below w.heap.size w w'):xY w' b A c l :=
 ⟨h.blk.stay hb,h.row.below hb,h.le,h.max,h.nil,h.off,fun a e=>Nat.lt_of_lt_of_le (h.lt a e) hb.size⟩
theorem xY.but {w w':World}{b g:Nat}{A:Option Addr}{c:Nat}{l:List (Int×Int)}(h:xY w b A c l)(hb:But g w w')(hg:b≠g)(hA:∀a,A=some a→a.block≠g):xY w' b A c l :=
 ⟨h.blk.but hb hg,h.row.but hb hA,h.le,h.max,h.nil,h.off,fun a e=>Nat.lt_of_lt_of_le (h.lt a e) hb.size⟩
theorem FP (T:TypeId)(v:Value)(w:World):Calls Tryz.prog 24 #[.agg #[.iface T v]] w fun e w' =>
  e=.returned (.pointer (some ⟨w.heap.size+1,0,none⟩))∧Dk w' (w.heap.size+1) 0 0 (.iface T v) (.slice none 0 0) 0∧Below w.heap.size w w':=by
 have hb1:Below w.heap.size w ((w.alloc (.cells #[.iface T v] 27)).alloc (.cells #[.int .u32 0,.int .i32 0,.int .u32 0,.iface T v,.slice none 0 0,.int .i64 0] 145)):=(bG _).alloc (by simp) _;have hd:Dk ((w.alloc (.cells #[.iface T v] 27)).alloc (.cells #[.int .u32 0,.int .i32 0,.int .u32 0,.iface T v,.slice none 0 0,.int .i64 0] 145)) (w.heap.size+1) 0 0 (.iface T v) (.slice none 0 0) 0:=aJ (by simp);have H:=hdz (af hd hb1);clear hb1 hd;go_enter Tryz.func24,Tryz.ntmps24
 go_wp2_with fail
 exact bodyPost_ret (v := .pointer (some ⟨w.heap.size+1,0,none⟩)) (by simp [results,Tryz.results24,go_sem]) rfl ⟨rfl,H.out.1,H.out.2⟩
theorem Cu (b:Nat)(k:Int)(w:World)(h:w.cell? ⟨b,5,none⟩=some (.int .i64 k)):Calls Tryz.prog 25 #[.pointer (some ⟨b,0,none⟩)] w fun e w'=>e=.returned (.int .i64 k)∧w'=w:=by
 have HL:=hdz (Dg b 5 k w h);clear h;go_enter Tryz.func25,Tryz.ntmps25
 go_wp2_with fail
 ((with_reducible refine HL.out.mono ?_);rintro e w1 ⟨rfl,rfl⟩);go_wp2_with fail
 go_ret
 exact ⟨rfl,rfl⟩
section
variable {k:Int}{T:TypeId}{fI fM fN fP fS:FuncId}{At:World→Value→List (Int×Int)→Prop}
theorem CS (K:iT k T fI fM fN fP fS At)(b:Nat)(v:Value)(l:List (Int×Int))(w:World)(hk:Dk w b 0 1 (.iface T v) (.slice none 0 0) 0)(ha:At w v l)(hl:l.length<16777216) :
  Calls Tryz.prog 57 #[.pointer (some ⟨b,0,none⟩)] w fun e w'=>e=.returned (.tuple #[]) ∧ ∃A c,Dk w' b 0 1 .nilIface (.slice A l.length c) 1∧Row w' A l∧l.length≤c∧c≤9223372036854775807∧(A=none→c=0)∧(∀a,A=some a→a.block≠b∧a.block<w'.heap.size)∧But b w w':=by
 have HC:=hdz (qg K v l w ha hl);have HK:=hdz hk;have e3:=hk.c3;clear hk ha hl;go_enter Tryz.func57,Tryz.ntmps57
 go_wp2_with fail
 ((with_reducible refine HC.out.mono ?_);rintro e w1 ⟨sv,rfl,hown,hb1⟩);obtain ⟨A,c,rfl,hr1,h2,h3,h4⟩:=hown.form;have hlt:=World.ownsRow.lt hown
 have hne:∀a,A=some a→a.block≠b∧a.block<w1.heap.size:=fun a e=>by
  subst e;have h5:=hlt a.block rfl;have h6:=HK.out.lt;exact ⟨by omega,h5.2⟩
 have hk1:=HK.out.stay hb1;have x4:=hk1.c4;have f4:=hk1.z 4;have hk2:=hk1.H8 (.slice A l.length c);have x3:=hk2.c3;have f3:=hk2.z 3;have hk3:=hk2.Hz .nilIface;obtain ⟨W3,hW3⟩:=aU ((w1.setCell ⟨b,4,none⟩ (.slice A l.length c)).setCell ⟨b,3,none⟩ .nilIface);have hbut:But b w W3:=by rw [hW3];exact ((But.aV hb1).BS 4 _).BS 3 _
 have hrow:Row W3 A l:=by rw [hW3];exact (hr1.but (But.set b 4 w1 _) fun a e=>(hne a e).1).but (But.set b 3 _ _) fun a e=>(hne a e).1
 rw [←hW3]at hk3;have HADD:=hdz (CY b 5 0 W3 hk3.c5 (hk3.z 5) (by omega) (by omega));have hsz:W3.heap.size=w1.heap.size:=by rw [hW3];simp [World.setCell]
 have H:=hdz (af hk3 (af hrow (af hbut (af hne (af hsz (af h2 (af h3 h4)))))));generalize hL:l.length=L at *;have HLL:=hdz hL;clear hL hk1 hr1 hb1 hk2 hk3 hrow hbut hne hlt HC HK hsz h2 h3 h4 hown;go_wp2_with fail
 rw [←hW3];clear hW3 x3 f3 x4 f4;((with_reducible refine HADD.out.mono ?_);rintro e w3 ⟨rfl,rfl⟩);go_wp2_with fail
 go_end0
 obtain ⟨hk3,hrow,hbut,hne,hsz,h2,h3,h4⟩:=H.out;have hL:=HLL.out;subst hL;exact ⟨rfl,A,c,hk3.H9 _,hrow.but (But.set b 5 W3 _) fun a e=>(hne a e).1,h2,h3,h4,fun a e=>⟨(hne a e).1,by simp [World.setCell];rw [hsz];exact (hne a e).2⟩,hbut.BS 5 _⟩
def tY (b:Nat):Value := .func (.func 57) #[.pointer (some ⟨b,0,none⟩)] #[]
theorem Ej (K:iT k T fI fM fN fP fS At)(b:Nat)(v:Value)(l:List (Int×Int))(w:World)(hk:Dk w b 0 0 (.iface T v) (.slice none 0 0) 0)(ha:At w v l)(hl:l.length<16777216) :
  Calls Tryz.prog 99 #[.pointer (some ⟨b,0,none⟩),tY b] w fun e w'=>e=.returned (.tuple #[]) ∧ ∃A c,xY w' b A c l∧But b w w':=by
 unfold tY;have hnot:∀(x:Bool) (w:World),(Op.unary .not (.bool x)).run Tryz.prog w=.ok (.bool (!x)) w:=fun _ _=>rfl;have hk1:=hk.set1 1;have ha1:=K.keep ha (bO.set hk (by decide) 1 (.int .i32 1)) (by simp [World.setCell]);have HLK:=hdz (CG ⟨b,1,none⟩ w hk.c1 (hk.z 1));obtain ⟨w1,hw1⟩:=aU (w.setCell ⟨b,1,none⟩ (.int .i32 1));rw [←hw1]at hk1 ha1;have hb1:But b w w1:=by rw [hw1];exact But.set b 1 w _
 have HLD:=hdz (uW ⟨b,0,none⟩ 0 w1 hk1.c0);have HOR:=hdz (CS K b v l w1 hk1 ha1 hl);have H1:=hdz (af hw1 (af hb1 hk1.lt));clear hk ha hl hk1 ha1 hw1 hb1;go_enter_defers Tryz.func99,Tryz.ntmps99
 go_wp2_with fail
 ((with_reducible refine HLK.out.mono ?_);rintro e w' ⟨rfl,rfl⟩);rw [←H1.out.1];go_wp2_with fail
 ((with_reducible refine HLD.out.mono ?_);rintro e w' ⟨rfl,rfl⟩);go_wp2_with fail
 ((with_reducible refine HOR.out.mono ?_);rintro e w2 ⟨rfl,A,c,hk2,hr2,h2,h3,h4,h5,hb2⟩);have H2:=hdz (af hk2 (af hr2 (af h2 (af h3 (af h4 (af h5 hb2))))));clear hk2 hr2 h2 h3 h4 h5 hb2 HLK HLD HOR;go_wp2_with fail
 obtain ⟨hk2,hr2,h2,h3,h4,h5,hb2⟩:=H2.out;have hb02:=H1.out.2.1.trans hb2;have hkd:Dk w2.drew b 0 1 .nilIface (.slice A l.length c) 1:=hk2;refine leaves_cons (f := 128) (args:=#[.pointer (some ⟨b,0,none⟩),.bool true]) (by simp) (by simp [go_sem]) ?_;refine (AY ⟨b,0,none⟩ (.int .u32 0) .returning _ hk2.c0 (hk2.z 0)).mono ?_;rintro e u' w'' ⟨rfl,rfl,rfl⟩;have hk3:=hkd.set0 1;refine leaves_cons (f := 127) (args:=#[.pointer (some ⟨b,1,none⟩)]) (by simp [settle]) (by simp [go_sem]) ?_;refine (AR ⟨b,1,none⟩ _ _ hk3.c1 (hk3.z 1)).mono ?_;rintro e u' w'' ⟨rfl,rfl,rfl⟩;have hk4:=hk3.set1 0;have hbd:But b w2 w2.drew:=But.drew b w2;have hne:∀a,A=some a→a.block≠b:=fun a e=>(h5 a e).1;have hr4:=((hr2.but hbd hne).but (But.set b 0 w2.drew (.int .u32 1)) hne).but (But.set b 1 _ (.int .i32 0)) hne;have hb4:=((hb02.trans hbd).BS 0 (.int .u32 1)).BS 1 (.int .i32 0);have hs4:=((hbd.BS 0 (.int .u32 1)).BS 1 (.int .i32 0)).size;exact ⟨.tuple #[],results_none rfl _ _ _,rfl,A,c,⟨hk4,hr4,h2,h3,h4,hne,fun a e=>Nat.lt_of_lt_of_le (h5 a e).2 hs4⟩,hb4⟩
theorem EH (K:iT k T fI fM fN fP fS At)(b:Nat)(v:Value)(l:List (Int×Int))(w:World)(hk:Dk w b 0 0 (.iface T v) (.slice none 0 0) 0)(ha:At w v l)(hl:l.length<16777216) :
  Calls Tryz.prog 56 #[.pointer (some ⟨b,0,none⟩),tY b] w fun e w'=>e=.returned (.tuple #[]) ∧ ∃A c,xY w' b A c l∧But b w w':=by
 have hnot:∀(x:Bool) (w:World),(Op.unary .not (.bool x)).run Tryz.prog w=.ok (.bool (!x)) w:=fun _ _=>rfl;have HS:=hdz (Ej K b v l w hk ha hl);have HL:=hdz (uW ⟨b,0,none⟩ 0 w hk.c0);clear hk ha hl;go_enter Tryz.func56,Tryz.ntmps56
 go_wp2_with fail
 ((with_reducible refine HL.out.mono ?_);rintro e w' ⟨rfl,rfl⟩);go_wp2_with fail
 ((with_reducible refine HS.out.mono ?_);rintro e w' ⟨rfl,h⟩);go_wp2
 go_end0
 exact ⟨rfl,h⟩
end
def Told (b:Nat)(l:List (Int×Int))(w:World)(e:Ending)(w':World):Prop :=
 ∃(v:Value) (A:Option Addr) (cc B:Nat),e=.returned v∧xY w' b A cc l∧Own w' B v l∧But b w w'∧w.heap.size≤B∧b<B ∧ ∀a,A=some a→a.block<B
theorem E5 (b n:Nat)(l:List (Int×Int))(w:World)(hd:Calls Tryz.prog 56 #[.pointer (some ⟨b,0,none⟩),tY b] w fun e w'=>e=.returned (.tuple #[]) ∧ ∃A c,xY w' b A c l∧But b w w')(hn:n=l.length)(hl:l.length<16777216) :
  Calls Tryz.prog 26 #[.pointer (some ⟨b,0,none⟩)] w (Told b l w):=by
 have hmf:∀(fn:Fn) (first cap:Array Value) (w:World),(Instr.makeFunc fn first cap).run Tryz.prog w=.ok (.func fn first cap) w:=fun _ _ _ _=>rfl;have HD:=hdz hd;unfold tY at HD;have HL:=hdz (af hn hl);clear hd hn hl;go_enter Tryz.func26,Tryz.ntmps26
 go_wp2_with fail
 ((with_reducible refine HD.out.mono ?_);rintro e w1 ⟨rfl,A,c,h',hb'⟩);have e4:=h'.blk.c4;have HC:=hdz (Cx A l n c w1 HL.out.1 (by have:=HL.out;omega) h'.row (by rw [HL.out.1];exact h'.le) h'.nil);rw [←HL.out.1]at e4;have H:=hdz (af h' hb');clear h' hb' HD;go_wp2_with fail
 ((with_reducible refine HC.out.mono ?_);rintro e w2 ⟨v2,rfl,hown,hb2⟩);have HT:=hdz (show Told b l w (.returned v2) w2 from ⟨v2,A,c,w1.heap.size,rfl,H.out.1.stay hb2,hown,H.out.2.trans (But.aV hb2),H.out.2.size,H.out.1.blk.lt,H.out.1.lt⟩);clear HC hown hb2;go_wp2_with fail
 go_ret
 exact HT.out
theorem DY (b:Nat)(A:Option Addr)(c:Nat)(l:List (Int×Int))(w:World)(h:xY w b A c l)(hl:l.length<16777216) :
  Calls Tryz.prog 26 #[.pointer (some ⟨b,0,none⟩)] w (Told b l w) :=
 E5 b l.length l w ((Dn b 0 _ w h.blk.c0).mono fun e w' ⟨h1,h2⟩=>⟨h1,A,c,by rw [h2];exact h,by rw [h2];exact But.refl _ _⟩) rfl hl
theorem Dv {k:Int}{T:TypeId}{fI fM fN fP fS:FuncId}{At:World→Value→List (Int×Int)→Prop}(K:iT k T fI fM fN fP fS At)(b:Nat)(v:Value)(l:List (Int×Int))(w:World)(hk:Dk w b 0 0 (.iface T v) (.slice none 0 0) 0)(ha:At w v l)(hl:l.length<16777216) :
  Calls Tryz.prog 26 #[.pointer (some ⟨b,0,none⟩)] w (Told b l w):=E5 b l.length l w (EH K b v l w hk ha hl) rfl hl
end Go.Proofs.YtmeodbjlmjpnbaaGreat
namespace Go.Proofs.YtmeodbjlmjpnbaaGreat
open Go.Sort Go.RowKit
theorem Rw.var {W:World}{v:Value}{xs:List (Int×Int)}(h:Rw W v xs){b:Nat}{u:Value}(hb:W.heap[b]?=some (.cells #[u] 27 (0,0)))(u':Value):Rw (W.setCell ⟨b,0,Option.none⟩ u') v xs:=by
 rcases h with h|⟨g,o,c,cs,h1,h2,h3,h4,h5⟩
 ·exact .inl h
 ·refine .inr ⟨g,o,c,cs,h1,h2,h3,(aH _ _ (fun e=>?_)).trans h4,h5⟩;rw [e,hb]at h4
  cases h4
theorem Rw.at {W:World}{A:Option Addr}{n c:Nat}{xs:List (Int×Int)}(h:Rw W (.slice A n c) xs)(j:Nat)(hj:j<xs.length)(y:Int×Int)(hy:xs[j]?=some y):∃b o,A=some ⟨b,o,Option.none⟩∧W.cell? ⟨b,o+j*2,Option.none⟩=some (.int .i64 y.1)∧W.cell? ⟨b,o+j*2+1,Option.none⟩=some (.int .i64 y.2):=by
 obtain ⟨A',k',e,hr, -⟩:=h.form
 cases e
 obtain ⟨b,o,rfl,hc⟩:=hr (by omega);have:=qm hc j hj;have e2:=(List.getElem?_eq_some_iff.1 hy).2;rw [e2]at this;exact ⟨b,o,rfl,this⟩
def ND (t:TypeId):Prop:=t≠145
theorem Gs {W W':World}(h:bO ND W W'):bO NH W W':=fun k cs t ht e=>h k cs t (fun e2=>absurd (e2▸ht) (by decide)) e
theorem EJ {W W':World}{b:Nat}(h:But b W W'){cs:Array Value}{z:Nat×Nat}(hb:W.heap[b]?=some (.cells cs 145 z)):bO ND W W':=fun k cs t ht e=>(h.block k (lt_of_heap e) fun ek=>by subst ek;rw [hb]at e;cases e;exact ht rfl).trans e
theorem Rw.oG {W W':World}{v:Value}{xs:List (Int×Int)}(h:Rw W v xs)(hk:bO ND W W'):Rw W' v xs:=by
 rcases h with h|⟨g,o,c,cs,h1,h2,h3,h4,h5⟩
 ·exact .inl h
 ·exact .inr ⟨g,o,c,cs,h1,h2,h3,hk _ _ _ (by unfold ND;decide) h4,h5⟩
theorem Ep {W W':World}{b:Nat}{u:Value}(h:W.heap[b]?=some (.cells #[u] 27 (0,0)))(hk:bO ND W W'):W'.heap[b]?=some (.cells #[u] 27 (0,0)):=hk _ _ _ (by unfold ND;decide) h
theorem Gc (z:Int)(w:World) :
  Calls Tryz.prog 13 #[.pointer none,.agg #[.nilIface],.int .i64 z] w fun e w'=>e=.returned (.tuple #[.slice none 0 0,.int .i64 22])∧Below w.heap.size w w':=by
 have hb1:Below w.heap.size w (w.alloc (.cells #[.nilIface] 27)):=(Below.refl _ w).alloc (Nat.le_refl _) _;have H:=hdz hb1;clear hb1;go_enter Tryz.func13,Tryz.ntmps13
 go_wp2_with fail
 refine (Hl _).mono ?_;rintro e w1 ⟨rfl,hb⟩;have HB:=hdz (H.out.trans (hb.mono H.out.size));clear hb;go_wp2_with fail
 exact bodyPost_ret (v := .tuple #[.slice none 0 0,.int .i64 22]) (by simp [results,Tryz.results13,go_sem]) rfl ⟨rfl,HB.out⟩
end Go.Proofs.YtmeodbjlmjpnbaaGreat
namespace Go.Proofs.YtmeodbjlmjpnbaaGreat
open Go.Sort Go.RowKit
theorem Gx:dw [((2:Int),(0:Int)),(1,0),(2,0)]=[(1,0),(2,0),(2,0)]:=by
 have h:[((2:Int),(0:Int)),(1,0),(2,0)].Perm [(1,0),(2,0),(2,0)]:=by decide
 rw [bX h];exact vZ (by unfold ordered;decide)
theorem FY {T:TypeId}{fI fM fN fP fS:FuncId}{At:World→Value→List (Int×Int)→Prop}(K:iT 4 T fI fM fN fP fS At)(w:World):Calls Tryz.prog 8 #[] w fun e w'=>e=.returned (.bool true)∧Below w.heap.size w w':=by
 have HB:=hdz (Below.refl w.heap.size w);go_enter Tryz.func8,Tryz.ntmps8
 have hb:=(Below.refl w.heap.size w).alloc (Nat.le_refl _) (.cells #[.int .i64 2,.int .i64 0,.int .i64 1,.int .i64 0,.int .i64 2,.int .i64 0] 29);have HBx:=hdz (HB.out.trans (hb.mono HB.out.size));clear HB hb;have hr0:Row (w.alloc (.cells #[.int .i64 2,.int .i64 0,.int .i64 1,.int .i64 0,.int .i64 2,.int .i64 0] 29)) (some ⟨w.heap.size,0,none⟩) [((2:Int),(0:Int)),(1,0),(2,0)]:=yV w [((2:Int),(0:Int)),(1,0),(2,0)] 29;go_wp2_with fail
 have HC:=K.of (some ⟨w.heap.size,0,none⟩) [((2:Int),(0:Int)),(1,0),(2,0)] 3 _ hr0 (by decide) (by intro x hx;simp only [List.mem_cons,List.not_mem_nil,or_false]at hx;rcases hx with rfl|rfl|rfl<;>exact ⟨by unfold iw;decide,by unfold iw;decide⟩);rw [Gx]at HC;refine (HC).mono ?_;rintro e w2 ⟨v1,rfl,ha,hb⟩;have HB:=hdz (HBx.out.trans (hb.mono HBx.out.size));clear HBx hb;have A1:=hdz (ha);clear ha hr0 HC;have hb:=(Below.refl w2.heap.size w2).alloc (Nat.le_refl _) (.cells #[.iface T v1] 27);have HBx:=hdz (HB.out.trans (hb.mono HB.out.size));have A1x:=hdz (K.stay A1.out hb);clear HB A1 hb;have VX:=hdz (show (w2.alloc (.cells #[.iface T v1] 27)).heap[w2.heap.size]?=some (.cells #[.iface T v1] 27 (0,0)) from aJ (by simp));have c_VX:=one_cell VX.out;go_wp2_with fail
 clear c_VX;generalize w2.alloc (.cells #[.iface T v1] 27)=w3 at *;refine (qg K v1 [((1:Int),(0:Int)),(2,0),(2,0)] _ A1x.out (by decide)).mono ?_;rintro e w4 ⟨sv,rfl,hown,hb⟩;have HB:=hdz (HBx.out.trans (hb.mono HBx.out.size));have A1:=hdz (K.stay A1x.out hb);have VXx:=hdz ((hb.block _ (lt_of_heap VX.out)).trans VX.out);clear HBx A1x VX hb;obtain ⟨A1x_,c1_,rfl, -⟩:=hown.form;have R1:=hdz (hown.rw);clear hown;have c_VX:=one_cell VXx.out;go_wp2_with fail
 clear c_VX;have HC:=hdz (show Calls Tryz.prog 13 #[.pointer none,.agg #[.iface T v1],.int .i64 2] w4 (fun e w' => ∃sv,e=.returned (.tuple #[sv,.int .i64 0])∧Own w' w4.heap.size sv [((1:Int),(0:Int)),(2,0)]∧Below w4.heap.size w4 w') from xW K (by decide) v1 [((1:Int),(0:Int)),(2,0),(2,0)] 2 2 w4 A1.out (by decide) (.inl (by decide)) (by decide));refine (HC.out).mono ?_;rintro e w5 ⟨tv,rfl,hown,hb⟩;have HBx:=hdz (HB.out.trans (hb.mono HB.out.size));have A1x:=hdz (K.stay A1.out hb);have VX:=hdz ((hb.block _ (lt_of_heap VXx.out)).trans VXx.out);have R1x:=hdz (R1.out.stay hb);clear HB A1 VXx R1 hb;clear HC;obtain ⟨A2x_,c2_,rfl, -⟩:=hown.form;clear hown;have c_VX:=one_cell VX.out;go_wp2_with fail
 clear c_VX;refine (Gi K (by decide) v1 (-1) (by decide) _).mono ?_;rintro e w6 ⟨rfl,hb⟩;have HB:=hdz (HBx.out.trans (hb.mono HBx.out.size));have A1:=hdz (K.stay A1x.out hb);have VXx:=hdz ((hb.block _ (lt_of_heap VX.out)).trans VX.out);have R1:=hdz (R1x.out.stay hb);clear HBx A1x VX R1x hb;go_wp2_with fail
 refine (Gc 1 _).mono ?_;rintro e w7 ⟨rfl,hb⟩;have HBx:=hdz (HB.out.trans (hb.mono HB.out.size));have A1x:=hdz (K.stay A1.out hb);have VX:=hdz ((hb.block _ (lt_of_heap VXx.out)).trans VXx.out);have R1x:=hdz (R1.out.stay hb);clear HB A1 VXx R1 hb;have c_VX:=one_cell VX.out;go_wp2_with fail
 clear c_VX;have hlo:=HBx.out.size;refine (FP T v1 _).mono ?_;rintro e w8 ⟨rfl,hd,hb⟩;have HB:=hdz (HBx.out.trans (hb.mono HBx.out.size));have A1:=hdz (K.stay A1x.out hb);have VXx:=hdz ((hb.block _ (lt_of_heap VX.out)).trans VX.out);have R1:=hdz (R1x.out.stay hb);clear HBx A1x VX R1x hb;have D1:=hdz (hd);clear hd;generalize hbd:w7.heap.size+1=bd at *;have HLO:=hdz (show w.heap.size≤bd by omega);clear hlo hbd;go_wp2_with fail
 refine (Cu bd 0 _ D1.out.c5).mono ?_;rintro e w9 ⟨rfl,hw⟩;subst hw;go_wp2_with fail
 refine (Dv K bd v1 [((1:Int),(0:Int)),(2,0),(2,0)] _ D1.out A1.out (by decide)).mono ?_;rintro e w9 ⟨rva,Aa,ca,Ba,rfl,hdr,hown,hbut,hBa,hbBa,hABa⟩;obtain ⟨Ea,fa,rfl, -⟩:=hown.form;have hk:=EJ hbut D1.out;have hs:=hbut.size;have HBx:=hdz (hbut.below HB.out (HLO.out) (HB.out.size));have A1x:=hdz (K.keep A1.out (Gs hk) hs);have VX:=hdz (Ep VXx.out hk);have R1x:=hdz (R1.out.oG hk);clear HB A1 VXx R1 D1 hk hs hbut;have D2:=hdz (hdr);clear hown hBa hbBa hABa hdr;go_wp2_with fail
 refine (DY bd Aa ca [((1:Int),(0:Int)),(2,0),(2,0)] _ D2.out (by decide)).mono ?_;rintro e w10 ⟨rvb,Ab,cb,Bb,rfl,hdr,hown,hbut,hBb,hbBb,hABb⟩;obtain ⟨Eb,fb,rfl, -⟩:=hown.form;have hk:=EJ hbut D2.out.blk;have hs:=hbut.size;have HB:=hdz (hbut.below HBx.out (HLO.out) (HBx.out.size));have A1:=hdz (K.keep A1x.out (Gs hk) hs);have VXx:=hdz (Ep VX.out hk);have R1:=hdz (R1x.out.oG hk);clear HBx A1x VX R1x D2 hk hs hbut;have D3:=hdz (hdr);clear hown hBb hbBb hABb hdr;have HC:=hdz (fun W (hb:Below w10.heap.size w10 W)=>show Calls Tryz.prog 22 #[.agg #[.iface T v1],.agg #[.int .i64 2,.int .i64 0]] W (fun e w'=>e=.returned (.int .i64 2)∧Below W.heap.size W w') from CP K v1 [((1:Int),(0:Int)),(2,0),(2,0)] (2,0) W (K.stay A1.out hb) (by decide) (by unfold ordered;decide));have HS:=hdz (fun W (hb:Below w10.heap.size w10 W)=>show Calls Tryz.prog 23 #[.agg #[.iface T v1],.agg #[.iface T v1]] W (fun e w'=>e=.returned (.bool true)∧Below W.heap.size W w') from DV K K v1 v1 [((1:Int),(0:Int)),(2,0),(2,0)] [((1:Int),(0:Int)),(2,0),(2,0)] W (K.stay A1.out hb) (K.stay A1.out hb) (by decide));obtain ⟨lb,lo,hA,k0, -⟩:=Rw.at R1.out 0 (by decide) (1,0) rfl;subst hA;obtain ⟨b9,o9,hA,k2, -⟩:=Rw.at R1.out 2 (by decide) (2,0) rfl
 cases hA
 have k0:w10.cell? ⟨lb,lo,none⟩=some (.int .i64 1):=by simpa using k0
 have k2:w10.cell? ⟨lb,lo+4,none⟩=some (.int .i64 2):=k2;have c_VX:=one_cell VXx.out;go_wp2_with fail
 refine (HC.out _ (Below.refl _ _)).mono ?_;rintro e w11 ⟨rfl,hb⟩;have HB9:=hdz hb;clear c_VX k0 k2;have HBx:=hdz (HB.out.trans (hb.mono HB.out.size));have A1x:=hdz (K.stay A1.out hb);have VX:=hdz ((hb.block _ (lt_of_heap VXx.out)).trans VXx.out);have R1x:=hdz (R1.out.stay hb);have D3x:=hdz (D3.out.stay hb);clear HB A1 VXx R1 D3 hb;have c_VX:=one_cell VX.out;go_wp2_with fail
 clear c_VX;refine (HS.out _ HB9.out).mono ?_;rintro e w12 ⟨rfl,hb⟩;have HB:=hdz (HBx.out.trans (hb.mono HBx.out.size));have A1:=hdz (K.stay A1x.out hb);have VXx:=hdz ((hb.block _ (lt_of_heap VX.out)).trans VX.out);have R1:=hdz (R1x.out.stay hb);have D3:=hdz (D3x.out.stay hb);clear HBx A1x VX R1x D3x hb;go_wp2_with fail
 refine (Cu bd 1 _ D3.out.blk.c5).mono ?_;rintro e w13 ⟨rfl,hw⟩;subst hw;go_wp2_with fail
 refine bodyPost_ret (v := .bool true) (by simp [results,Tryz.results8,go_sem]) rfl ⟨rfl,HB.out⟩
theorem yC (w:World):Calls Tryz.prog 8 #[] w fun e w'=>e=.returned (.bool true)∧Below w.heap.size w w':=by
 obtain ⟨T,fI,fM,fN,fP,fS,At,K⟩:=Fu 4 (by decide);exact FY K w
end Go.Proofs.YtmeodbjlmjpnbaaGreat
