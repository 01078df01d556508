/- A range over a method value with two variables, of which one is made anew in each round, over an iterator that keeps rows of its own in memory: they are told from the loop's by the types of their blocks. Of no program; no conditions beyond what the theorem says. -/
import Derived.Test.YtmeodbjlmjpnbaaGreatPa
import Derived.Test.YtmeodbjlmjpnbaaGreatPwb
import Derived.RangeFuncBox
import Derived.Deep.LoopGhost
import Derived.Test.YtmeodbjlmjpnbaaGreatPvb
import Derived.Test.YtmeodbjlmjpnbaaGreatShelf
import Derived.Shelf.SlicesE.Reverse
import Derived.Shelf.Abstract
import Derived.Shelf.RegionOpen
import Derived.OwnWalkIn
import Derived.TacticsInMore
import Derived.LoopNIn
import Derived.LoopIn
import Derived.Deep.RegionHeld3
import Derived.Deep.DrawnRows
import Derived.Test.YtmeodbjlmjpnbaaGreatPbb
import Derived.Laws.EntriesVeiled
set_option maxRecDepth 100000
set_option maxHeartbeats 4000000
namespace Go.Proofs.YtmeodbjlmjpnbaaGreat.U
open Go.RowKit
structure Mv (base:Nat)(M:TypeId→Prop)(W W':World):Prop where
 os:W'.os=W.os
 tape:W'.tape=W.tape
 output:W'.output=W.output
 size:W.heap.size≤W'.heap.size
 block:∀k,k<W.heap.size→(k<base ∨ ∀cs t z,W.heap[k]?=some (.cells cs t z) → ¬M t)→W'.heap[k]?=W.heap[k]?
theorem Mv.below {base:Nat}{M:TypeId→Prop}{W W':World}(h:Below W.heap.size W W'):Mv base M W W':=⟨h.os,h.tape,h.output,h.size,fun k hk _=>h.block k hk⟩
theorem Mv.trans {base:Nat}{M:TypeId→Prop}{U V W:World}(h:Mv base M U V)(k:Mv base M V W):Mv base M U W :=
 ⟨k.os.trans h.os,k.tape.trans h.tape,k.output.trans h.output,Nat.le_trans h.size k.size,fun i hi hc=>by
  have e:=h.block i hi hc;exact (k.block i (Nat.lt_of_lt_of_le hi h.size) (hc.imp id fun f cs t z he=>f cs t z (e▸he))).trans e⟩
theorem Mv.grown {base:Nat}{M:TypeId→Prop}{W W':World}{row:Option Nat}(hg:W.grownBy W' row)(hr:∀g,row=some g→base≤g ∧ ∃cs t z,W.heap[g]?=some (.cells cs t z)∧M t):Mv base M W W' :=
 ⟨hg.os,hg.tape,hg.output,hg.size,fun k hk hc=>hg.block k hk fun e=>by
  obtain ⟨h1,cs,t,z,h2,h3⟩:=hr k e.symm;rcases hc with hc|hc
  ·omega
  ·exact hc cs t z h2 h3⟩
theorem Mv.cells {base:Nat}{M:TypeId→Prop}{W W':World}(h:Mv base M W W'){k:Nat}{cs:Array Value}{t:TypeId}{z:Nat×Nat}(he:W.heap[k]?=some (.cells cs t z))(hM:¬M t):W'.heap[k]?=some (.cells cs t z) :=
 (h.block k (lt_of_heap he) (.inr fun cs' t' z' e=>by rw [he]at e;cases e;exact hM)).trans he
theorem Mv.Ic {base:Nat}{M:TypeId→Prop}{W W':World}(h:Mv base M W W')(hs:base≤W.heap.size):Below base W W':=⟨h.os,h.tape,h.output,h.size,fun k hk=>h.block k (Nat.lt_of_lt_of_le hk hs) (.inl hk)⟩
def Es {α : Type}(F:Fence)(n:Nat)(P:Program)(gf:Nat)(fs:Array Value)(e1 e2 : α→Value)(M N:TypeId→Prop)(xs:List α)(w:World):Prop :=
 ∀(l:Nat) (J:List α→World→Prop) (W:World),Below w.heap.size w W→(∀s A B,J s A→Mv w.heap.size M A B→J s B) →
  (∀pre x W1,J pre W1→(pre++[x]) <+: xs→YieldAt F (n - 1) P l #[e1 x,e2 x] W1 fun e W'=>e=.returned (.bool true)∧J (pre++[x]) W'∧bO N W1 W'∧W1.heap.size≤W'.heap.size)→J [] W →
  CallsIn F n P gf (fs++#[.func (.yield l) #[] #[]]) W fun e W'=>(∃v,e=.returned v)∧J xs W'
def FJ {α : Type}(B:Nat)(N:TypeId→Prop)(I:List α→World→Prop)(xs:List α)(W:World):Exit→Act→World→Prop
 | .normal,_,W'=>KeepsFrom B W W'∧bO N W W'∧I xs W'
 | _,_,_=>False
theorem Cg {N:TypeId→Prop}{W:World}{l:Nat}{o o':Obj}(hl:W.heap[l]?=some o)(ho:o.isCells=false):bO N W (W.putObj l o'):=fun k cs t _ e=>by
 have hne:k≠l:=fun ek=>by subst ek;rw [hl]at e;cases e;cases ho
 exact (World.putObj_heap_other hne).trans e
theorem size_put {W:World}{l:Nat}{o:Obj}:(W.putObj l o).heap.size=W.heap.size:=by simp [World.putObj]
theorem zu {F:Fence}{n:Nat}{P:Program}{α : Type}{g:Operand}{p q:Tmp}{assign body:Code}{Q:Exit→Act→World→Prop}{a:Act}{w:World}
  (hro:F.round=none) (h1:1≤n) {gf:Nat} {fs:Array Value} (hg:a.eval g=.func (.func gf) fs #[]) (hF:F.fn gf) (eg:∀args w,(callFunc gf args).run P w=.ok (.enter gf args) w)
  {e1 e2 : α→Value} {M N:TypeId→Prop} {xs:List α} (hseq:Es F (n - 1) P gf fs e1 e2 M N xs w)
  (I:List α→World→Prop) (hI:OwnFrom w.heap.size I) (hMv:∀s A B,I s A→Mv w.heap.size M A B→I s B) (h0:I [] w) (J : α→Act→World→Prop) (hJ:∀x a1,OwnFrom w.heap.size (fun (_:List α) W=>J x a1 W))
  (hassign:∀(l:Nat) (x : α) (W:World) (K:Act→World→Prop),(∀a1 W1,J x a1 W1→Below W.heap.size W W1→K a1 W1)→assign.wpIn (F.inRound l) (n - 1 - 1) P (Exit.then K (fun _ _ _=>False)) { tmps:=(a.tmps.setIfInBounds p (e1 x)).setIfInBounds q (e2 x),defers:=[] } W)
  (hbody:∀(l:Nat) (pre:List α) (x : α) (a1:Act) (W:World),J x a1 W→I pre W→(pre++[x]) <+: xs→body.wpIn (F.inRound l) (n - 1 - 1) P (FJ w.heap.size N I (pre++[x]) W) a1 W)
  (hdone:∀(D:Nat) (W:World),w.heap.size≤D→I xs W→W.heap[D]?=some (.deferred (some []))→Q .normal { a with defers:={ target := .collected D,args:=#[] }::a.defers } W) :
  (Code.rangeFunc g #[p,q] assign body).wpIn F n P Q a w:=by
 refine wpIn_rangeFunc ?_;intro fn hfn;rw [hro];let R:LoopState→Obj:=fun st=>.loop (recAt fn a.tmps #[p,q] assign body w.heap.size st)
 let W1:World:=(w.alloc (.deferred (some []))).alloc (R .ready)
 have hs1:W1.heap.size=w.heap.size+1+1:=by simp [W1]
 have hL1:W1.heap[w.heap.size+1]?=some (R .ready):=by
  have:=World.alloc_heap_new (w.alloc (.deferred (some []))) (R .ready);rwa [World.size_alloc]at this
 have hK1:W1.heap[w.heap.size]?=some (.deferred (some [])):=(Below.heap_alloc _ _ _ (by simp)).trans (World.alloc_heap_new w _);have hb1:Below w.heap.size w W1:=((Below.refl _ w).alloc (Nat.le_refl _) _).alloc (by simp) _;refine ⟨w.heap.size+1,[{ target := .collected w.heap.size,args:=#[] }],W1,{ target := .fn (.func gf) #[],args:=fs++#[.func (.yield (w.heap.size+1)) #[] #[]] },W1,gf,fs++#[.func (.yield (w.heap.size+1)) #[] #[]],W1,?_,?_,?_,?_,fun _=>h1,?_⟩
 ·exact run_enterLoop_outer _ _ _ _ _
 ·simp only [resolve,hg];simp [go_sem]
 ·intro f' hf';simp [Target.leads]at hf';subst hf';exact hF
 ·simp [invoke,go_sem,eg]
 ·refine (hseq (w.heap.size+1) (fun pre W=>I pre W∧W.heap[w.heap.size+1]?=some (R .ready)∧W.heap[w.heap.size]?=some (.deferred (some []))) W1 hb1 ?_ ?_ ⟨hI.alloc _ (hI.alloc _ h0),hL1,hK1⟩).mono ?_
  ·rintro s A B ⟨hi,hl,hk⟩ hm;exact ⟨hMv s A B hi hm,(hm.block _ (Array.getElem?_eq_some_iff.1 hl).1 (.inr fun cs t z e=>by rw [hl]at e;cases e)).trans hl,(hm.block _ (Array.getElem?_eq_some_iff.1 hk).1 (.inr fun cs t z e=>by rw [hk]at e;cases e)).trans hk⟩
  ·rintro pre x W0 ⟨hi0,hl0,hk0⟩ hlen;have hlt0:w.heap.size+1<W0.heap.size:=(Array.getElem?_eq_some_iff.1 hl0).1;have hy:=run_yield (P:=P) (args:=#[e1 x,e2 x]) hl0 (by rfl);have et:((recAt fn a.tmps #[p,q] assign body w.heap.size .ready).params.zip #[e1 x,e2 x]).foldl (fun t (q,v)=>t.setIfInBounds q v) (recAt fn a.tmps #[p,q] assign body w.heap.size .ready).tmps=(a.tmps.setIfInBounds p (e1 x)).setIfInBounds q (e2 x):=by simp [recAt]
   rw [et]at hy;refine ⟨fn,_,assign,body,hy,roundIn_of_wpIn hfn ?_⟩;refine hassign _ x W0 _ (fun a1 W hj hbw=>?_);have hl:W.heap[w.heap.size+1]?=some (R .ready):=(hbw.block _ hlt0).trans hl0;have hk:W.heap[w.heap.size]?=some (.deferred (some [])):=(hbw.block _ (by omega)).trans hk0;have hi:I pre W:=hI pre W0 W none hi0 ⟨hbw.os,hbw.tape,hbw.output,hbw.size,fun k hk _=>hbw.block k hk⟩ (fun r e=>by cases e);have hlt:w.heap.size+1<W.heap.size:=(Array.getElem?_eq_some_iff.1 hl).1;refine ⟨_,run_beginRound hl rfl,?_⟩;have hl2:(W.putObj (w.heap.size+1) (R .busy)).heap[w.heap.size+1]?=some (R .busy):=World.putObj_heap_same hlt;have hk2:(W.putObj (w.heap.size+1) (R .busy)).heap[w.heap.size]?=some (.deferred (some [])):=(World.putObj_heap_other (by omega)).trans hk;have hw2:bO N W (W.putObj (w.heap.size+1) (R .busy)):=Cg hl rfl;have hw0:bO N W0 W:=bO.below hbw;refine wpIn_mono (hbody _ pre x a1 (W.putObj (w.heap.size+1) (R .busy)) ((hJ x a1).putObj (s:=[]) _ hj (by omega) hl rfl) (hI.putObj _ hi (by omega) hl rfl) hlen) ?_;rintro e a3 W3 hp
   cases e with
   | normal =>
    obtain ⟨hk3,hb3,hi3⟩:=hp;have hl3:=hk3.same _ _ (by omega) hl2 rfl;refine ⟨_,_,run_endRound none hl3,rfl,⟨hI.putObj _ hi3 (by omega) hl3 rfl,?_,?_⟩,((hw0.trans hw2).trans hb3).trans (Cg hl3 rfl),?_⟩
    ·exact World.putObj_heap_same (Array.getElem?_eq_some_iff.1 hl3).1
    ·exact (World.putObj_heap_other (by omega)).trans (hk3.same _ _ (Nat.le_refl _) hk2 rfl)
    ·have h5:=hbw.size;have h6:=hk3.size;rw [size_put]at h6 ⊢;omega
   | ret=>exact hp.elim
   | exit id=>exact hp.elim
   | goto t=>exact hp.elim
   | panic ch=>exact hp.elim
   | outgrown=>exact hp.elim
  ·rintro e W2 ⟨⟨v,rfl⟩,hi,hl,hk⟩;exact ⟨none,_,run_endLoop hl (by simp [recAt]),hdone _ _ (Nat.le_refl _) (hI.putObj _ hi (by omega) hl rfl) ((World.putObj_heap_other (by omega)).trans hk)⟩
end Go.Proofs.YtmeodbjlmjpnbaaGreat.U
namespace Go.Proofs.YtmeodbjlmjpnbaaGreat.U.Bo
open Go.Sort Go.RowKit Go.Proofs.YtmeodbjlmjpnbaaGreat.U.Gn
def zm (x:Nat):Value := .int .i64 (x:Int)
def yt (t:TypeId):Prop:=t=3∨t=380
structure Cn (W:World)(base bt be:Nat)(t:Nat)(E:List Nat):Prop where
 tt:Boxed W bt 3 (.int .i64 (t:Int))
 ee:∃v,Boxed W be 380 v∧Mine zm 3 W base v E
 te:bt<be
 eb:be<base
theorem yP {W W':World}{B:Nat}{t:TypeId}{v:Value}(h:Boxed W B t v)(hb:Below W.heap.size W W'):Boxed W' B t v:=(hb.block _ (lt_of_heap h)).trans h
theorem G7:(Tryz.prog.info? 3).map (fun i=>(i.zero,i.size,i.bytes))=some (some (.int .i64 0),1,8):=by kernel_rfl
theorem BQ (w:World)(base:Nat)(v:Value)(xs:List Nat)(x:Nat)(z:Int)(hz:z=(x:Int))(hown:Mine zm 3 w base v xs)(hlen:xs.length<1073741824)(hb:base≤w.heap.size) :
  ∃v' w',(Builtin.append_ #[380, 380] 380 #[v,.slice (some ⟨w.heap.size,0,none⟩) 1 1]).run Tryz.prog (w.alloc (.cells #[.int .i64 z] 3))=.ok v' w'∧Mine zm 3 w' base v' (xs++[x])∧(w.alloc (.cells #[.int .i64 z] 3)).grownBy w' v.ownBlock:=by
 subst hz;obtain ⟨i0,hi,hz0,hz1,hz2⟩:=info_parts G7;have hown':(w.alloc (.cells #[.int .i64 (x:Int)] 3)).ownsRow base 3 1 v xs.length (xs.map zm):=World.ownsRow.alloc hown _
 obtain ⟨v',w',h1,h2,h3,_⟩:=run_append_own_at (P:=Tryz.prog) (w.alloc (.cells #[.int .i64 (x:Int)] 3)) base 380 380 3 i0 _ 1 8 Tryz.underlying380 hi hz0 hz1 hz2 rfl (by omega) v xs.length (xs.map zm) hown' ⟨w.heap.size,0,none⟩ 1 1 [.int .i64 (x:Int)] rfl
  (fun j u hu=>by
   rw [jY];have e1:(w.alloc (.cells #[.int .i64 (x:Int)] 3)).heap[w.heap.size]?=some (.cells #[.int .i64 (x:Int)] 3 (0,0)):=aJ rfl;unfold World.cell?;rw [e1];simpa using hu) (by intro u hu;simp at hu;subst hu;rfl) (by unfold maxLen;omega) (by omega) (by simp;omega)
 refine ⟨v',w',h1,?_,h3⟩;unfold Mine;rw [List.length_append,List.map_append];exact h2
theorem yJ {W:World}{base g cap n:Nat}{xs:List Nat}(h:Mine zm 3 W base (.slice (some ⟨g,0,none⟩) n cap) xs){k:Nat}(hk:k≤xs.length):Mine zm 3 W base (.slice (some ⟨g,0,none⟩) k cap) (xs.take k):=by
 obtain ⟨h1,h2⟩:=h;rcases h2 with ⟨e, -⟩|⟨g',cap',cur,e,hb,hg,hc,hm,hs,ht⟩
 ·cases e
 ·cases e
  refine ⟨by simp,.inr ⟨g,cap,cur,by rw [List.length_take,Nat.min_eq_left hk],hb,hg,by rw [List.length_take];omega,hm,hs,?_⟩⟩;rw [List.length_take,Nat.min_eq_left hk,List.map_take,←ht,List.take_take];congr 1
  omega
abbrev GQ (bt be:Nat):Value := .func (.func 239) #[] #[.pointer (some ⟨be,0,none⟩),.pointer (some ⟨bt,0,none⟩)]
theorem Ao (w:World):Calls Tryz.prog 230 #[] w fun e w' => ∃bt be,e=.returned (GQ bt be)∧Cn w' w'.heap.size bt be 0 []∧w.heap.size≤bt∧Below w.heap.size w w':=by
 have hmf:∀(fn:Fn) (first cap:Array Value) (w:World),(Instr.makeFunc fn first cap).run Tryz.prog w=.ok (.func fn first cap) w:=fun _ _ _ _=>rfl;have hb1:Below w.heap.size w ((w.alloc (.cells #[.int .i64 0] 3)).alloc (.cells #[.slice none 0 0] 380)):=new2 w _ _;have b1:Boxed ((w.alloc (.cells #[.int .i64 0] 3)).alloc (.cells #[.slice none 0 0] 380)) w.heap.size 3 (.int .i64 ((0:Nat):Int)):=(Boxed.new w 3 (.int .i64 0)).alloc _
 have b2:Boxed ((w.alloc (.cells #[.int .i64 0] 3)).alloc (.cells #[.slice none 0 0] 380)) (w.heap.size+1) 380 (.slice none 0 0):=by
  have:=Boxed.new (w.alloc (.cells #[.int .i64 0] 3)) 380 (.slice none 0 0);simpa only [World.size_alloc] using this
 have H:=hdz (af b1 (af b2 hb1));clear b1 b2 hb1;go_enter Tryz.func230,Tryz.ntmps230
 go_wp2_with fail
 go_ret
 exact ⟨_,_,rfl,⟨H.out.1,⟨_,H.out.2.1,Mine.none _ _ _⟩,by omega,by simp⟩,Nat.le_refl _,H.out.2.2⟩
theorem Dh (base bt be t s:Nat)(E:List Nat)(w:World)(h:Cn w base bt be t E)(hb:base≤w.heap.size)(hE:E.length<536870912)(ht:t<536870912)(hs:s<536870912) :
  Calls Tryz.prog 239 #[.int .i64 (s:Int),.pointer (some ⟨be,0,none⟩),.pointer (some ⟨bt,0,none⟩)] w fun e w' =>
   e=.returned (.int .i64 (((E++[t+s]).length - (cut (t+1) (E++[t+s])).length:Nat):Int))∧Cn w' base bt be (t+1) (cut (t+1) (E++[t+s]))∧Mv bt yt w w':=by
 obtain ⟨tt,⟨v,bV,hm⟩,te,eb⟩:=h;obtain ⟨u,hu⟩:=aU (t+s);obtain ⟨T,hT⟩:=aU (t+1);obtain ⟨v',w1,hrun,hown,hgr⟩:=BQ w base v E u (u:Int) rfl hm (by omega) hb;rw [←hu,←hT];obtain ⟨N,hN⟩:=aU ((E++[u]).length);have hNE:N=E.length+1:=by rw [hN];simp
 obtain ⟨g,cap,rfl⟩:=ownsRow_succ (k:=E.length) (by simpa [Mine] using hown);rw [←hNE]at hrun hown;have hgb:base≤g:=Mine.block hown g rfl;have hv1:Boxed w1 be 380 v:=(bV.alloc _).kept hgr (fun e=>by have:=Mine.block hm be e.symm;omega);have hv2:=hv1.set (.slice (some ⟨g,0,none⟩) N cap);have hr2:Mine zm 3 (w1.setCell ⟨be,0,none⟩ (.slice (some ⟨g,0,none⟩) N cap)) base (.slice (some ⟨g,0,none⟩) N cap) (E++[u]):=World.ownsRow.kept hown (grownBy_setCell' w1 be _) (.inr fun e=>by injection e with e;change g=be at e;omega); -- the counts' variable ahead of the row's
 have hnr:some bt≠v.ownBlock:=fun e=>by have:=Mine.block hm bt e.symm;omega
 have t1:Boxed w1 bt 3 (.int .i64 (t:Int)):=(tt.alloc _).kept hgr hnr
 have m1:Mv bt yt w w1:=(Mv.below (bG _)).trans (Mv.grown hgr fun k e=>by
  refine ⟨by have:=Mine.block hm k e;omega,?_⟩;rcases hm.2 with ⟨rfl, -⟩|⟨g',cap',cur,rfl, -,hg', -⟩
  ·cases e
  ·cases e
   exact ⟨cur,_,_,(alloc_old _ (lt_of_heap hg')).trans hg',.inl rfl⟩)
 have t2:Boxed (w1.setCell ⟨be,0,none⟩ (.slice (some ⟨g,0,none⟩) N cap)) bt 3 (.int .i64 (t:Int)):=(Below.heap_setCell w1 ⟨be,0,none⟩ _ bt (by show bt≠be;omega)).trans t1;have m2:Mv bt yt w (w1.setCell ⟨be,0,none⟩ (.slice (some ⟨g,0,none⟩) N cap)):=m1.trans (Mv.grown (grownBy_setCell' _ _ _) fun k e=>by cases e;exact ⟨by omega,_,_,_,hv1,.inr rfl⟩)
 have t3:Boxed ((w1.setCell ⟨be,0,none⟩ (.slice (some ⟨g,0,none⟩) N cap)).setCell ⟨bt,0,none⟩ (.int .i64 (T:Int))) bt 3 (.int .i64 (T:Int)):=t2.set _;have m3:Mv bt yt w ((w1.setCell ⟨be,0,none⟩ (.slice (some ⟨g,0,none⟩) N cap)).setCell ⟨bt,0,none⟩ (.int .i64 (T:Int))):=m2.trans (Mv.grown (grownBy_setCell' _ _ _) fun k e=>by cases e;exact ⟨Nat.le_refl _,_,_,_,t2,.inl rfl⟩)
 have e3:Boxed ((w1.setCell ⟨be,0,none⟩ (.slice (some ⟨g,0,none⟩) N cap)).setCell ⟨bt,0,none⟩ (.int .i64 (T:Int))) be 380 (.slice (some ⟨g,0,none⟩) N cap):=(Below.heap_setCell (w1.setCell ⟨be,0,none⟩ (.slice (some ⟨g,0,none⟩) N cap)) ⟨bt,0,none⟩ _ be (by show be≠bt;omega)).trans hv2;have r3:Mine zm 3 ((w1.setCell ⟨be,0,none⟩ (.slice (some ⟨g,0,none⟩) N cap)).setCell ⟨bt,0,none⟩ (.int .i64 (T:Int))) base (.slice (some ⟨g,0,none⟩) N cap) (E++[u]):=World.ownsRow.kept hr2 (grownBy_setCell' (w1.setCell ⟨be,0,none⟩ (.slice (some ⟨g,0,none⟩) N cap)) bt _) (.inr fun e=>by injection e with e;change g=bt at e;omega); -- what the walk reads
 have HN:=hdz (show N=(E++[u]).length∧N<1073741824∧T<1073741824∧0<N∧N≤cap from ⟨hN,by omega,by omega,by omega,by have:=(Mine.form r3);obtain ⟨A,c,e, -,h5, -⟩:=this;cases e;omega⟩)
 have HH:=hdz (af t3 (af e3 (af r3 (af m3 (show bt<be∧be<base∧base≤g from ⟨te,eb,hgb⟩)))));have c0:=bV.cell;have c1:=tt.cell;have a1:=hv1.cell;have z1:=hv1.frozen;have b2:=t2.cell;have y2:=t2.frozen;have d3:=e3.cell;have HR:=hdz hrun;have ws:IntKind.i64.wrap ((t:Int)+(s:Int))=(u:Int):=by rw [IntKind.wrap_i64];omega
 have wt:IntKind.i64.wrap ((t:Int)+1)=(T:Int):=by rw [IntKind.wrap_i64];omega
 clear tt bV hm hown hgr hv1 hv2 hr2 t1 m1 t2 m2 t3 m3 e3 r3 hrun hE ht hs hN hNE hnr hu hT te eb hgb hb;go_enter Tryz.func239,Tryz.ntmps239
 go_wp2_with (at_builtin;refine wpList_append_run rfl _ _ _ rfl _ _ _ _ rfl rfl HR.out ?_)
 generalize ((w1.setCell ⟨be,0,none⟩ (.slice (some ⟨g,0,none⟩) N cap))).setCell ⟨bt,0,none⟩ (.int .i64 (T:Int))=w3 at *;clear c0 c1 a1 z1 b2 y2 d3 HR ws wt;go_loopg [5] (N+1) (fun k o wr => ∃j:Nat,o=.int .i64 (j:Int)∧j+1=k∧j≤N∧cut T ((E++[u]).take j)=cut T (E++[u])∧Below w3.heap.size w3 wr)
 case atStart=>exact ⟨N,rfl,rfl,Nat.le_refl _,by rw [HN.out.1,List.take_length],Below.refl _ _⟩
 case round =>
  obtain ⟨j,rfl,hj,hjN,hcut,hbe⟩:=hrel;have hbd:=hbe.drew;have c0:=(yP HH.out.2.1 hbe).cell;have c1:=(yP HH.out.1 hbe).cell;by_cases hz:j=0
  ·have hfin:(E++[u]).take j=cut T (E++[u]):=by rw [←hcut,hz];rfl
   have g1:decide ((0:Int)<((j:Nat):Int))=false:=by simp;omega
   have g2:¬(0:Int)<((j:Nat):Int):=by omega
   have g3:¬0<j:=by omega
   clear hcut hj hz;go_wp2_with fail
   go_region
   clear c0 c1 g1 g2 g3;have X:=hdz (af hfin (af (yP HH.out.1 hbd) (af (yP HH.out.2.1 hbd) (af (Mine.stay HH.out.2.2.1 hbd) (HH.out.2.2.2.1.trans (Mv.below hbd))))));have b3:=X.out.2.2.1.cell;have y3:=X.out.2.2.1.frozen;have wsub:IntKind.i64.wrap ((N:Int) - ((j:Nat):Int))=((N - j:Nat):Int):=by have:=HN.out;rw [IntKind.wrap_i64];omega
   have q1:((j:Nat):Int)≤(cap:Int):=by have:=HN.out;omega
   have q2:j≤cap:=by have:=HN.out;omega
   have q3:(0:Int)≤((j:Nat):Int):=by omega
   generalize wr.drew=w4 at *;go_wp2_with fail
   go_ret
   obtain ⟨hfin,tt,ee,hm,mv⟩:=X.out;refine ⟨by rw [←hfin,List.length_take,←HN.out.1,Nat.min_eq_left hjN];rfl,⟨?_,⟨.slice (some ⟨g,0,none⟩) (j) cap,?_,?_⟩,HH.out.2.2.2.2.1,HH.out.2.2.2.2.2.1⟩,mv.trans (Mv.grown (grownBy_setCell' _ _ _) fun k e=>by cases e;exact ⟨Nat.le_of_lt HH.out.2.2.2.2.1,_,_,_,ee,.inr rfl⟩)⟩
   ·exact (Below.heap_setCell w4 ⟨be,0,none⟩ _ bt (by have:=HH.out.2.2.2.2.1;show bt≠be;omega)).trans tt
   ·exact ee.set _
   ·rw [←hfin];exact World.ownsRow.kept (yJ hm (by rw [←HN.out.1];exact hjN)) (grownBy_setCell' w4 be _) (.inr fun e=>by injection e with e;change g=be at e;have:=HH.out.2.2.2.2.2;omega)
  ·obtain ⟨i,hi⟩:∃i,j=i+1:=⟨j - 1,by omega⟩;clear hz;have hil:i<(E++[u]).length:=by rw [←HN.out.1];omega
   have hx:wr.cell? ⟨g,i,none⟩=some (.int .i64 (((E++[u])[i]:Nat):Int)):=by
    obtain ⟨A,c,e,hr, -⟩:=(Mine.stay HH.out.2.2.1 hbe).form
    cases e
    obtain ⟨b',o',e,hc⟩:=hr (by omega)
    cases e
    have:=hc i hil;rwa [Nat.zero_add]at this
   have htk:(E++[u]).take j=(E++[u]).take i++[(E++[u])[i]]:=by rw [hi];exact List.take_succ_eq_append_getElem hil
   rw [htk]at hcut;generalize (E++[u])[i]=x at *;have g1:decide ((0:Int)<(j:Int))=true:=decide_eq_true (by omega);have g2:(0:Int)<(j:Int):=by omega
   have g3:0<j:=by omega
   have w1':IntKind.i64.wrap ((j:Int) - 1)=(i:Int):=by have:=HN.out;rw [IntKind.wrap_i64];omega
   have q4:(0:Int)≤(i:Int):=by omega
   have q5:(i:Int)<(N:Int):=by omega
   have q6:i<N:=by omega
   have HC:=hdz (af hcut (af htk (af hj hi)));clear hcut htk hj hi hil;by_cases hxt:x=T
   ·subst hxt;have hc2:cut x ((E++[u]).take i)=cut x (E++[u]):=by rw [←HC.out.1,xG]
    have HC2:=hdz hc2;clear hc2;have g5:((x:Int) == (x:Int))=true:=by simp
    go_wp2_with fail
    go_region
    go_wp2_with fail
    go_roundg (i+1)
    case measure=>have:=HC.out.2.2;omega
    case rel=>exact ⟨i,rfl,rfl,by omega,HC2.out,hbd⟩
   ·have g5:((x:Int) == (T:Int))=false:=by simp;omega
    have g6:¬(x:Int)=(T:Int):=by omega
    have hfin:(E++[u]).take j=cut T (E++[u]):=by rw [←HC.out.1,vB hxt,HC.out.2.1]
    clear hxt;go_wp2_with fail
    go_region
    clear c0 c1 hx g1 g2 g3 w1' q4 q5 q6 g5 g6 HC;have X:=hdz (af hfin (af (yP HH.out.1 hbd) (af (yP HH.out.2.1 hbd) (af (Mine.stay HH.out.2.2.1 hbd) (HH.out.2.2.2.1.trans (Mv.below hbd))))));have b3:=X.out.2.2.1.cell;have y3:=X.out.2.2.1.frozen;have wsub:IntKind.i64.wrap ((N:Int) - ((j:Nat):Int))=((N - j:Nat):Int):=by have:=HN.out;rw [IntKind.wrap_i64];omega
    have q1:((j:Nat):Int)≤(cap:Int):=by have:=HN.out;omega
    have q2:j≤cap:=by have:=HN.out;omega
    have q3:(0:Int)≤((j:Nat):Int):=by omega
    generalize wr.drew=w4 at *;go_wp2_with fail
    go_ret
    obtain ⟨hfin,tt,ee,hm,mv⟩:=X.out;refine ⟨by rw [←hfin,List.length_take,←HN.out.1,Nat.min_eq_left hjN];rfl,⟨?_,⟨.slice (some ⟨g,0,none⟩) (j) cap,?_,?_⟩,HH.out.2.2.2.2.1,HH.out.2.2.2.2.2.1⟩,mv.trans (Mv.grown (grownBy_setCell' _ _ _) fun k e=>by cases e;exact ⟨Nat.le_of_lt HH.out.2.2.2.2.1,_,_,_,ee,.inr rfl⟩)⟩
    ·exact (Below.heap_setCell w4 ⟨be,0,none⟩ _ bt (by have:=HH.out.2.2.2.2.1;show bt≠be;omega)).trans tt
    ·exact ee.set _
    ·rw [←hfin];exact World.ownsRow.kept (yJ hm (by rw [←HN.out.1];exact hjN)) (grownBy_setCell' w4 be _) (.inr fun e=>by injection e with e;change g=be at e;have:=HH.out.2.2.2.2.2;omega)
end Go.Proofs.YtmeodbjlmjpnbaaGreat.U.Bo
namespace Go.Proofs.YtmeodbjlmjpnbaaGreat.U.Bo
open Go.Sort Go.RowKit Go.Proofs.YtmeodbjlmjpnbaaGreat.U.Gn Go.Shelf
attribute [local go_sem] Oper.semAt_some
theorem GL {w:World}{g:Nat}{cur:Array Value}{e:TypeId}{xs:List aN}(hb:w.heap[g]?=some (.cells cur e (0,0)))(ht:cur.toList.take xs.length=xs.map oH):Holds oH w g 0 xs.toArray:=by
 intro j hj;have hj':j<xs.length:=by simpa using hj
 refine ⟨?_,by simp [World.frozen?,hb]⟩;have h1:(cur.toList.take xs.length)[j]?=(xs.map oH)[j]?:=by rw [ht]
 rw [List.getElem?_take_of_lt hj']at h1;simp only [World.cell?,hb,Nat.zero_add];simp only [Option.isSome_none,Bool.false_eq_true,if_false];rw [←Array.getElem?_toList,h1];simp [hj']
theorem CQ (cur:Array Value)(ts:List aN)(h:ts.length≤cur.size):(putCells oH 0 ts.toArray cur).toList.take ts.length=ts.map oH:=by
 apply List.ext_getElem?
 intro j;by_cases hj:j<ts.length
 ·rw [List.getElem?_take_of_lt hj,Array.getElem?_toList];simp [putCells,hj,show j<cur.size by omega]
 ·rw [List.getElem?_take_eq_none (by omega),List.getElem?_eq_none (by simp;omega)]
theorem CW:OneCell oH:=fun _=>rfl
theorem qB (w:World)(base:Nat)(v:Value)(xs:List aN)(hown:j3 w base v xs)(hl:xs.length<1073741824) :
  Calls Tryz.prog 241 #[v] w fun e w'=>e=.returned (.tuple #[])∧j3 w' base v xs.reverse∧w.grownBy w' v.ownBlock:=by
 rcases hown.2 with ⟨rfl,hn⟩|⟨g,cap,cur,rfl,hb,hg,hc,hm,hs,ht⟩
 ·obtain rfl:xs=[]:=List.eq_nil_of_length_eq_zero hn;exact (AnyE.slices_Reverse_empty Tryz.revE none 0 w).mono fun _ _ ⟨he,hw⟩=>⟨he,hw▸hown,hw▸World.grownBy.refl w _⟩
 ·rw [Nat.mul_one]at ht hs;refine (AnyE.slices_Reverse Tryz.revE oH CW g 0 cap xs w (GL hg ht) (by omega)).mono fun e w' ⟨he,n,hw⟩=>⟨he,?_,?_⟩
  ·subst hw;refine ⟨by simp,.inr ⟨g,cap,putCells oH 0 xs.reverse.toArray cur,by rw [List.length_reverse],hb,?_,by rw [List.length_reverse];exact hc,hm,by simp [putCells,hs],?_⟩⟩
   ·simp [putRow,mapBlock,Sort.ahead,Array.getElem?_modify,hg,onCells]
   ·rw [Nat.mul_one];exact CQ cur xs.reverse (by rw [List.length_reverse];omega)
  ·subst hw;refine ⟨rfl,rfl,rfl,by simp,fun k hk hne=>?_⟩;have:g≠k:=fun e=>hne (by rw [e];rfl);simp [putRow,mapBlock,Sort.ahead,Array.getElem?_modify,this]
theorem fU {F:Fence}{n:Nat}{P:Program}{w:World}{ops:Array Oper}{rest:List Oper}{o:Oper}{a:Act}{Q:Exit→Act→World→Prop}(hgd:o.guard=Option.none)(s x:Operand)(t:TypeId)
  (ho:o.op=.call { callee := .builtin .append,args:=#[s,x],argTypes:=#[t,t] }) (v xv v':Value) (w':World) (hs:a.eval s=v) (hx:a.eval x=xv)
  (hrun:(Builtin.append_ #[t,t] o.type #[v,xv]).run P w=.ok v' w') (h:wpListIn F n P ops Q rest (a.put o.dst v') w'):wpListIn F n P ops Q (o::rest) a w:=by
 refine wpListIn_plain hgd fun K hK=>?_;unfold Oper.wpIn;refine ⟨?_,?_⟩
 ·simp [Oper.about,ho,resolve,Target.leads,Sem.run_pure]
 ·rw [Oper.semAt_plain F _ _ (by rw [ho];intro c hc';cases hc')];simp [execOp,ho,resolve,invoke,builtin,hs,hx,hrun,Result.andThen];exact hK _ _ h
theorem EW {W:World}{base g n cap:Nat}{xs:List aN}(h:j3 W base (.slice (some ⟨g,0,none⟩) n cap) xs){j:Nat}(hj:j<xs.length):W.cell? ⟨g,j,none⟩=some (oH xs[j]):=by
 have:=World.ownsRow.cells h (g:=g) rfl j (oH xs[j]) (by simp [hj]);rwa [jY,Nat.zero_add]at this
theorem Gf {W:World}{base g n cap:Nat}{xs:List aN}(h:j3 W base (.slice (some ⟨g,0,none⟩) n cap) xs):xs.length≤cap:=by
 rcases h.2 with ⟨e, -⟩|⟨g',cap',cur,e, -, -,hc, -⟩
 ·cases e
 ·injection e with e1 e2 e3
  omega
theorem zA {W:World}{base:Nat}{v:Value}{xs:List aN}(h:j3 W base v xs):∀g,v.ownBlock=some g→base≤g ∧ ∃cs t z,W.heap[g]?=some (.cells cs t z)∧t=125 := by
 intro g e;rcases h.2 with ⟨rfl, -⟩|⟨g',cap,cur,rfl,hb,hg, -⟩
 ·cases e
 ·cases e
  exact ⟨hb,cur,_,_,hg,rfl⟩
theorem qb.Ii {W:World}{x:Int×Int}{o:Qh}{b:Nat}{s:Hp.HP}{n:Nat}(h:qb W x o b s n):∀e∈o.all,kQ W e.h (some ⟨e.a,0,none⟩)∧e.h.ok∧e.h.some=true:=fun e he=>by
 have hok:=h.ok
 cases hok with|node hq hb hn=>?_
 have hin:e.h∈Gn.aR (heaps o):=by rw [vF];exact List.mem_map_of_mem he
 exact ⟨h.all e he,hb _ hin,(hn _ hin).1⟩
theorem BK {W:World}{base g cap n:Nat}{xs:List aN}(h:j3 W base (.slice (some ⟨g,0,none⟩) n cap) xs){k:Nat}(hk:k≤xs.length):j3 W base (.slice (some ⟨g,0,none⟩) k cap) (xs.take k):=by
 obtain ⟨h1,h2⟩:=h;rcases h2 with ⟨e, -⟩|⟨g',cap',cur,e,hb,hg,hc,hm,hs,ht⟩
 ·cases e
 ·cases e
  refine ⟨by simp,.inr ⟨g,cap,cur,by rw [List.length_take,Nat.min_eq_left hk],hb,hg,by rw [List.length_take];omega,hm,hs,?_⟩⟩;rw [List.length_take,Nat.min_eq_left hk,List.map_take,←ht,List.take_take];congr 1
  omega
def FW (t:TypeId):Prop:=t=125
def xU (t:TypeId):Prop:=au t∨t=125
abbrev Pr:Type:=(Int×Int)×Nat
def Hy (p:Pr):Value:=el p.1
def H7 (p:Pr):Value := .int .i64 (p.2:Int)
def due (st:List aN):List Pr:=st.reverse.flatMap fun e=>e.h.pre
theorem Ga:due []=[]:=rfl
theorem EK (st:List aN)(e:aN):due (st++[e])=e.h.pre++due st:=by simp [due]
theorem wQ (st:List aN)(l:List aN):due (st++l.reverse)=(l.flatMap fun e=>e.h.pre)++due st:=by simp [due]
theorem Dy (o:Qh):(Gn.aR (heaps o)).flatMap Lh.pre=o.all.flatMap fun e=>e.h.pre:=by rw [vF,List.flatMap_map]
def Gz (W:World)(st:List aN):Prop:=∀e∈st,kQ W e.h (some ⟨e.a,0,none⟩)∧e.h.ok∧e.h.some=true
theorem Gz.fQ {W W':World}{st:List aN}(h:Gz W st)(hk:Kp W W')(hs:W.heap.size≤W'.heap.size):Gz W' st:=fun e he=>⟨(h e he).1.fQ hk hs,(h e he).2⟩
theorem Ey {W W':World}{base:Nat}{v:Value}{xs:List aN}(h:j3 W base v xs)(hk:bO xU W W'):j3 W' base v xs:=by
 refine ⟨h.1,?_⟩;rcases h.2 with hn|⟨g,cap,cur,e,hb,hg,rest⟩
 ·exact .inl hn
 ·exact .inr ⟨g,cap,cur,e,hb,hk _ _ _ (.inr rfl) hg,rest⟩
theorem yD {W W':World}(h:bO xU W W'):Kp W W':=fun k cs t ht e=>h k cs t (.inl ht) e
theorem Cs {base:Nat}{W W':World}(h:Mv base FW W W'):Kp W W':=fun _ _ _ ht e=>h.cells e fun ep=>Eh ((show _=_ from ep)▸ht)
def wR (B:Nat)(xs:List Pr)(J:List Pr→World→Prop)(k:Nat)(v:Value)(W:World):Prop :=
 ∃(st:List aN) (pre:List Pr),xs=pre++due st∧k=(due st).length∧j3 W B v st∧Gz W st∧J pre W∧B≤W.heap.size
theorem Fj (R:Nat→Prop):∀n,R n → ∃k,R k ∧ ∀j,R j→k≤j:=by
 intro n;induction n using Nat.strongRecOn with
 | _ n ih =>
  intro h;by_cases hx:∃j,j<n∧R j
  ·obtain ⟨j,hj,hr⟩:=hx;exact ih j hj hr
  ·exact ⟨n,h,fun j hr=>Nat.le_of_not_lt fun hlt=>hx ⟨j,hlt,hr⟩⟩
theorem Fv {W:World}{st:List aN}(h:Gz W st):st.length≤(due st).length:=by
 rw [due,List.length_flatMap]
 have:∀l:List aN,(∀e∈l,e∈st)→l.length≤(l.map fun e=>e.h.pre.length).sum:=by
  intro l;induction l with
  | nil=>intro _;exact Nat.le_refl _
  | cons e l ih =>
   intro hl;have h1:=ih fun d hd=>hl d (List.mem_cons_of_mem _ hd);have h2:=(h e (hl e (by simp))).2.2;have h3:=rE e.h;rw [h2]at h3;have h4:0<e.h.size:=by simpa using h3.symm
   rw [List.map_cons,List.sum_cons,wC,List.length_cons];omega
 have h1:=this st.reverse fun e he=>List.mem_reverse.1 he;rwa [List.length_reverse]at h1
open Classical in
noncomputable def cK (R:Nat→Prop):Nat:=if h:∃k,R k ∧ ∀j,R j→k≤j then Classical.choose h else 0
theorem vX {R:Nat→Prop}{n:Nat}(h:R n):R (cK R) ∧ ∀j,R j→cK R≤j:=by
 have hx:=Fj R n h;unfold cK;rw [dif_pos hx];exact Classical.choose_spec hx
theorem jd (h:Lh)(b n:Nat)(hn:1≤n)(w:World)(hh:aA w h (some ⟨b,0,none⟩))(hs:h.some=true) :
  Es Fence.wide n Tryz.prog 231 #[.pointer (some ⟨b,0,none⟩)] Hy H7 FW xU h.pre w:=fun l J W hW hJ hY h0=>by
 have hal:Below w.heap.size w (W.alloc (.cells #[.pointer (some ⟨b,0,none⟩)] 125)):=hW.alloc hW.size _;have hlow:kQ (W.alloc (.cells #[.pointer (some ⟨b,0,none⟩)] 125)) h (some ⟨b,0,none⟩):=(hh.stay hal).lies
 have hst:wR w.heap.size h.pre J h.pre.length (.slice (some ⟨W.heap.size,0,none⟩) 1 1) (W.alloc (.cells #[.pointer (some ⟨b,0,none⟩)] 125)):=by
  refine ⟨[⟨h,b⟩],[],by simp [due],by simp [due],?_,?_,hJ _ _ _ h0 (Mv.below (bG _)),hal.size⟩
  ·exact ⟨rfl,.inr ⟨W.heap.size,1,#[.pointer (some ⟨b,0,none⟩)],rfl,hW.size,aJ rfl,Nat.le_refl _,by unfold maxLen;omega,rfl,rfl⟩⟩
  ·intro e he;obtain rfl:e=⟨h,b⟩:=by simpa using he
   exact ⟨hlow,hh.right,hs⟩
 have HX:=hdz (show h.pre.length≤268435456 by rw [wC];exact hh.small);refine callsIn_of_wp Tryz.func231 rfl trivial ?_ rfl;simp only [Tryz.ntmps231,List.size_toArray,List.length_cons,List.length_nil,Nat.reduceAdd,Nat.reduceSub,Array.replicate_succ,Array.replicate_zero,List.push_toArray,List.append_toArray,List.nil_append,List.cons_append];have HS:=hdz hst;have HJ:=hdz hJ;have HY:=hdz hY;clear hW hh hs hJ hY h0 hal hlow hst;gi_wp2
 gi_loopw [4] (fun v wr => ∃k,wR w.heap.size h.pre J k v wr) (fun v wr=>cK fun k=>wR w.heap.size h.pre J k v wr)
 case atStart=>exact ⟨_,HS.out⟩
 case round =>
  obtain ⟨k0,hk0⟩:=hrel;obtain ⟨hk,hmin⟩:=vX (R:=fun k=>wR w.heap.size h.pre J k u4 wr) hk0;have HM:=hdz (af hk hmin);clear hk0 hmin;obtain ⟨st,pre,hx,hkl,hown,hw,hJs,hB⟩:=hk;rcases List.eq_nil_or_concat st with rfl|⟨st',e,rfl⟩
  ·have hv:u4=.slice none 0 0 ∨ ∃g c,u4=.slice (some ⟨g,0,none⟩) 0 c:=by
    rcases hown.2 with ⟨rfl, -⟩|⟨g,cap,cur,rfl, -⟩
    ·exact .inl rfl
    ·exact .inr ⟨g,cap,rfl⟩
   rw [Ga,List.append_nil]at hx;have HF:=hdz (af hx hJs);clear hx hkl hown hw hJs HM;rcases hv with rfl|⟨g,c,rfl⟩
   all_goals gi_wp2
   all_goals go_end0
   all_goals exact ⟨⟨_,rfl⟩,HF.out.1▸HF.out.2⟩
  ·rw [List.concat_eq_append]at hx hkl hown hw;rw [EK]at hx hkl;obtain ⟨eh,ea⟩:=e;obtain ⟨hle,hoke,hse⟩:=hw ⟨eh,ea⟩ (by simp);have hwr:Gz wr st':=fun d hd=>hw d (List.mem_append_left _ hd);have hsum:=congrArg List.length hx;rw [List.length_append,List.length_append,wC eh]at hsum;have hHX:=HX.out;simp only at hle hoke hse hx hkl hsum;have hdl:=Fv hwr;obtain ⟨x,q,rfl⟩:∃x q,eh=.node x q:=⟨_,_,rO hse⟩;obtain ⟨o,a,s,nn,rfl,ha,hN⟩:=qb.of (W:=wr) (x:=x) (q:=q) (p:=some ⟨ea,0,none⟩) ⟨hle,hoke,by omega⟩
   cases ha
   obtain ⟨x1,x2⟩:=x;have hpre:(Lh.node (x1,x2) (heaps o)).pre=((x1,x2),nn)::o.all.flatMap fun e=>e.h.pre:=by rw [tZ,Dy,←hN.size]
   rw [hpre]at hx hkl;obtain ⟨K,hK⟩:=aU (st'.length);obtain ⟨L,hL⟩:=aU (K+1);have hlen:(st'++[(⟨.node (x1,x2) (heaps o),ea⟩:aN)]).length=L:=by rw [List.length_append,←hK,hL];rfl
   obtain ⟨g,cap,rfl⟩:=ownsRow_succ (k:=K) (by rw [←hL,←hlen];exact hown)
   have hcl:wr.cell? ⟨g,K,none⟩=some (.pointer (some ⟨ea,0,none⟩)):=by
    have h1:=EW hown (j:=K) (by omega);rw [h1];simp [hK,oH]
   have hdr:Below wr.heap.size wr wr.drew:=(Below.refl _ _).drew;obtain ⟨fn,tmps,assign,body,hy,hR⟩:=HY.out pre ((x1,x2),nn) wr.drew (HJ.out _ _ _ hJs (Mv.below hdr)) ⟨(o.all.flatMap fun e=>e.h.pre)++due st',by rw [hx];simp⟩;dsimp only [Hy,H7]at hy
   have n0:=hN.four.c0;have n1:=hN.four.c1;have n4:=hN.four.c4;have g1:decide ((0:Int)<(L:Int))=true:=decide_eq_true (by omega);have g2:(0:Int)<(L:Int):=by omega
   have g3:0<L:=by omega
   have w1':IntKind.i64.wrap ((L:Int) - 1)=(K:Int):=by rw [IntKind.wrap_i64];omega
   have q4:(0:Int)≤(K:Int):=by omega
   have q5:(K:Int)<(L:Int):=by omega
   have q6:K<L:=by omega
   have hcap:=Gf hown;have hqs:=hN.qs;have hns:=hN.size;have HH:=hdz (af hx (af hkl (af hown (af hwr (af hN (af hB (show K=st'.length∧L=K+1∧o.size<268435456∧L<268435458∧K+o.size<268435457∧K≤cap from ⟨hK,hL,by omega,by omega,by omega,by omega⟩)))))));clear hx hkl hown hw hJs hB hle hoke hse hwr hsum hHX hdl hpre hK hL hlen hN hcap hqs hns;rw [show (Value.slice (some ⟨g,0,none⟩) (K+1) cap)=Value.slice (some ⟨g,0,none⟩) L cap from by rw [HH.out.2.2.2.2.2.2.2.1]]at HM ⊢;gi_wp2
   have hmix:Tryz.prog.follows Departure.mixedOrders=true:=by kernel_rfl
   gi_region_with_o (refine hR.mono ?_;rintro e W3 ⟨rfl,hJ3,hk3,hs3⟩)
   all_goals (have hk4:=bO.trans (bO.below hdr) hk3;have hN3:=HH.out.2.2.2.2.1.fQ (yD hk4) (Nat.le_trans hdr.size hs3);have hw3:=HH.out.2.2.2.1.fQ (yD hk4) (Nat.le_trans hdr.size hs3);have hO3:=Ey HH.out.2.2.1 hk4;have hB3:=Nat.le_trans HH.out.2.2.2.2.2.1 (Nat.le_trans hdr.size hs3))
   all_goals (have n2:=hN3.four.c2;have n3:=hN3.four.c3)
   all_goals (have H3:=hdz (af hJ3 (af hN3 (af hw3 (af hO3 hB3))));clear hJ3 hk3 hs3 hk4 hN3 hw3 hO3 hB3 hcl hy hR n0 n1 n4 g1 g2 g3 w1' q5 q6)
   all_goals gi_wp2
   all_goals
    refine ⟨trivial,?_⟩;refine (callsIn_wide.2 (Hp.ES o s W3 H3.out.2.1.q HH.out.2.2.2.2.2.2.2.2.1)).mono ?_;rintro e w4 ⟨v2,rfl,hown2,hb4⟩;have H4:=hdz (af hown2 hb4);clear n2 n3 hown2 hb4;gi_wp2
    refine ⟨trivial,?_⟩;refine (callsIn_wide.2 (qB w4 W3.heap.size v2 o.all H4.out.1 (by rw [Go.Proofs.YtmeodbjlmjpnbaaGreat.U.Lh.aD];have:=HH.out.2.2.2.2.2.2.2.2.1;omega))).mono ?_;rintro e w5 ⟨rfl,hown5,hg5⟩;have hgl:g<W3.heap.size:=(World.ownsRow.lt H3.out.2.2.2.1 g rfl).2;have hO5:j3 w5 w.heap.size (.slice (some ⟨g,0,none⟩) (K+1) cap) (st'++[(⟨.node (x1,x2) (heaps o),ea⟩:aN)]):=World.ownsRow.kept (Mine.stay H3.out.2.2.2.1 H4.out.2) hg5 (.inr fun e=>by have:=(zA H4.out.1 g e.symm).1;omega);have hO6:=BK hO5 (k:=K) (by rw [List.length_append,←HH.out.2.2.2.2.2.2.1];omega);rw [List.take_left' HH.out.2.2.2.2.2.2.1.symm]at hO6;obtain ⟨A,c,rfl,hr5, -, -,hA⟩:=Mine.form hown5;have hal:o.all.reverse.length=o.size:=by rw [List.length_reverse,Go.Proofs.YtmeodbjlmjpnbaaGreat.U.Lh.aD]
    have hs5:W3.heap.size≤w5.heap.size:=Nat.le_trans H4.out.2.size hg5.size;obtain ⟨v',w6,hrun,hown6,hg6⟩:=Hp.rY w5 w.heap.size _ st' o.all.reverse A c hO6 hr5 hA (by rw [hal];have:=HH.out.2.2.2.2.2.2;omega) (Nat.le_trans H3.out.2.2.2.2 hs5);have hmv:Mv w.heap.size FW W3 w6:=(Mv.below H4.out.2).trans ((Mv.grown hg5 fun k e=>by obtain ⟨h1,h2⟩:=zA H4.out.1 k e;exact ⟨Nat.le_trans H3.out.2.2.2.2 h1,h2⟩).trans (Mv.grown hg6 fun k e=>zA hO6 k e))
    have hw6:Gz w6 (st'++o.all.reverse):=by
     intro d hd;rcases List.mem_append.1 hd with hd|hd
     ·exact H3.out.2.2.1.fQ (Cs hmv) hmv.size d hd
     ·exact (H3.out.2.1.fQ (Cs hmv) hmv.size).Ii d (List.mem_reverse.1 hd)
    have H6:=hdz (af hown6 (af hw6 (af (HJ.out _ _ _ H3.out.1 hmv) (Nat.le_trans H3.out.2.2.2.2 hmv.size))));have HRUN:=hdz hrun;obtain ⟨M,hM⟩:=aU (o.all.reverse.length);rw [←hM]at HRUN H4 ⊢;have q7:(K:Int)≤(cap:Int):=by have:=HH.out.2.2.2.2.2.2;omega
    have q8:K≤cap:=by have:=HH.out.2.2.2.2.2.2;omega
    clear hown5 hg5 hgl hO5 hO6 hr5 hA hal hs5 hrun hown6 hg6 hmv hw6 hM;gi_wp2_with (gi_at_builtin;refine fU rfl _ _ _ rfl _ _ _ _ rfl rfl HRUN.out ?_)
    have hrel:wR w.heap.size h.pre J (due (st'++o.all.reverse)).length v' w6:=⟨st'++o.all.reverse,pre++[((x1,x2),nn)],by rw [wQ,HH.out.1];simp,rfl,H6.out.1,H6.out.2.1,H6.out.2.2.1,H6.out.2.2.2⟩;go_roundw
    case rel=>exact ⟨_,hrel⟩
    case measure =>
     refine Nat.lt_of_le_of_lt ((vX (R:=fun k=>wR w.heap.size h.pre J k v' w6) hrel).2 _ hrel) ?_;show _<cK fun k=>wR w.heap.size h.pre J k (Value.slice (some ⟨g,0,none⟩) L cap) wr;rw [HH.out.2.2.2.2.2.2.2.1,HH.out.2.1,wQ];simp
end Go.Proofs.YtmeodbjlmjpnbaaGreat.U.Bo
namespace Go.Proofs.YtmeodbjlmjpnbaaGreat.U.Bo
open Go.Sort Go.RowKit Go.Proofs.YtmeodbjlmjpnbaaGreat.U.Gn
def Lh.BA [Tb]:Lh→List UInt8
 | .nil=>[46]
 | .node x q=>91::(nW x.1 x.2++((Gn.aR q).attach.map fun b=>32::b.1.BA).flatten++[93])
termination_by h=>SizeOf.sizeOf h
decreasing_by
 have:=jF q b.1 b.2;rw [Lh.node.sizeOf_spec];omega
def Lh.aM [Tb]:Lh→List UInt8
 | .nil=>[46]
 | .node x q=>91::(nW x.1 x.2++((Gn.aR q).flatMap fun b=>32::b.BA)++[93])
theorem DI [Tb](h:Lh):h.BA=h.aM:=by
 cases h with
 | nil=>rw [Lh.BA];rfl
 | node x q=>rw [Lh.BA,List.attach_map_val (l:=Gn.aR q) (f:=fun b=>32::Lh.BA b),←List.flatMap_def];rfl
theorem Bn [Tb](x:Int×Int)(q:List (Gn.ai Lh)):(Lh.node x q).aM=91::(nW x.1 x.2++((Gn.aR q).flatMap fun b=>32::b.aM)++[93]):=by
 show 91::(nW x.1 x.2++((Gn.aR q).flatMap fun b=>32::b.BA)++[93])=_;simp only [DI]
end Go.Proofs.YtmeodbjlmjpnbaaGreat.U.Bo
namespace Go.Proofs.YtmeodbjlmjpnbaaGreat.U.Bo
open Go.Sort Go.RowKit Go.Proofs.YtmeodbjlmjpnbaaGreat.U.Gn
def qI.stepT [Tb](c:qI)(p:(Int×Int)×Nat):qI :=
 ⟨c.t+1,cut (c.t+1) (c.E++[c.t+p.2]),c.o++sep c.o++(91::(nW p.1.1 p.1.2++List.replicate (c.ends p.2) 93))⟩
def qI.runT [Tb](c:qI)(l:List ((Int×Int)×Nat)):qI:=l.foldl qI.stepT c
theorem vT [Tb](c:qI)(a b:List ((Int×Int)×Nat)):c.runT (a++b)=(c.runT a).runT b:=List.foldl_append
theorem vw [Tb](c:qI)(p:(Int×Int)×Nat)(b:List ((Int×Int)×Nat)):c.runT (p::b)=(c.stepT p).runT b:=rfl
def Bv [Tb](h:Lh):Prop:=∀c:qI,(∀e∈c.E,c.t+h.size≤e) →
 c.runT h.pre=⟨c.t+h.size,cut (c.t+h.size) c.E,c.o++sep c.o++h.aM++List.replicate (c.E.length - (cut (c.t+h.size) c.E).length) 93⟩
theorem xX [Tb](T:Nat)(E:List Nat)(hE:∀e∈E,T≤e):∀(l:List Lh),l≠[]→(∀b∈l,Bv b∧0<b.size) → ∀c:qI,c.t+sizes l=T→c.E=E++[T]→c.o≠[] →
  c.runT (l.flatMap Lh.pre)=⟨T,cut T E,c.o++(l.flatMap fun b=>32::b.aM)++List.replicate (1+(E.length - (cut T E).length)) 93⟩
 | [],h,_,_,_,_,_=>(h rfl).elim
 | [b],_,hb,c,ht,he,ho=>by
  have h1:=(hb b (by simp)).1 c;simp only [jr]at ht;have hs:c.t+b.size=T:=by simpa [sizes] using ht
  rw [hs,he]at h1;simp only [List.flatMap_cons,List.flatMap_nil,List.append_nil];rw [h1 (by intro e h;rcases List.mem_append.1 h with h|h;exact hE e h;simp at h;omega),xG,Aq ho];have:=uh T E;rw [show (E++[T]).length - (cut T E).length=1+(E.length - (cut T E).length) from by simp;omega];simp
 | b::d::r,_,hb,c,ht,he,ho=>by
  have h1:=(hb b (by simp)).1 c;have h2:=(hb d (by simp)).2;simp only [jr]at ht;have hcut:cut (c.t+b.size) (E++[T])=E++[T]:=vB (by omega) E;rw [he,hcut]at h1;rw [List.flatMap_cons,vT,h1 (by intro e h;rcases List.mem_append.1 h with h|h;have:=hE e h;omega;simp at h;omega),Aq ho];rw [Nat.sub_self,List.replicate_zero,List.append_nil];rw [xX T E hE (d::r) (by simp) (fun b h=>hb b (List.mem_cons_of_mem _ h)) _ (by simp only [jr];omega) rfl (by simp)];simp
theorem DK [Tb]{h:Lh}(hk:h.ok)(hs:h.some=true):Bv h:=by
 induction hk with
 | nil=>cases hs
 | @node x q hq hb hn ih =>
  intro c hE;have hsz:=rM x q;have hin:∀b∈Gn.aR q,Bv b∧0<b.size:=fun b h=>⟨ih b h (hn b h).1,by have:=FT b;rw [show b.min.2=true from (hn b h).1]at this;simpa using this.symm⟩;rw [tZ,vw,Bn];by_cases h0:Gn.aR q=[]
  ·have h1:(Lh.node x q).size=1:=by rw [hsz,h0];rfl
   rw [h0,h1];have:=uh (c.t+1) c.E;simp only [List.flatMap_nil,qI.runT,List.foldl_nil,qI.stepT,qI.ends,xG,List.append_nil];rw [show (c.E++[c.t+1]).length - (cut (c.t+1) c.E).length=1+(c.E.length - (cut (c.t+1) c.E).length) from by simp;omega];simp [Nat.add_comm 1,List.replicate_succ]
  ·generalize hT:c.t+(Lh.node x q).size=T at *
   have h2:0<sizes (Gn.aR q):=by
    cases hl:Gn.aR q with
    | nil=>exact (h0 hl).elim
    | cons b l=>have:=(hin b (by rw [hl];simp)).2;rw [jr];omega
   have hcut:cut (c.t+1) (c.E++[T])=c.E++[T]:=vB (by omega) c.E
   have e0:c.stepT (x,(Lh.node x q).size)=⟨c.t+1,c.E++[T],c.o++sep c.o++(91::nW x.1 x.2)⟩:=by
    simp only [qI.stepT,qI.ends,hT,hcut,Nat.sub_self,List.replicate_zero,List.append_nil]
   rw [e0,xX T c.E hE (Gn.aR q) h0 hin _ (by simp only;omega) rfl (by simp)];simp [Nat.add_comm 1,List.replicate_succ]
theorem Di [Tb]{h:Lh}(hk:h.ok)(hs:h.some=true):(wm.runT h.pre).o=h.aM:=by
 have:=DK hk hs wm (by intro e he;cases he);rw [this];simp [wm,sep,cut]
theorem wX [Tb]:∀(l:List ((Int×Int)×Nat)) (c:qI),(∀p∈l,iw p.1.1∧iw p.1.2)→c.o.length+c.E.length≤50*c.t→(c.runT l).o.length+(c.runT l).E.length≤50*(c.runT l).t∧(c.runT l).t=c.t+l.length
 | [],c,_,h=>⟨h,by simp [qI.runT]⟩
 | p::l,c,hp,h=>by
  have h1:=dW p.1.1 p.1.2 (hp p (by simp)).1 (hp p (by simp)).2;have h2:=uh (c.t+1) (c.E++[c.t+p.2]);have h3:(sep c.o).length≤1:=by unfold sep;split<;>simp
  have:=wX l (c.stepT p) (fun q hq=>hp q (List.mem_cons_of_mem _ hq)) (by
   simp only [qI.stepT,qI.ends,List.length_append,List.length_cons,List.length_replicate,List.length_nil]at h2 ⊢;omega)
  rw [vw];refine ⟨this.1,this.2.trans ?_⟩;simp only [qI.stepT,List.length_cons];omega
theorem Et [Tb]:∀(l:List ((Int×Int)×Nat)) (c:qI),(c.runT l).E.length≤c.E.length+l.length
 | [],_=>Nat.le_refl _
 | p::l,c=>by
  have h1:=Et l (c.stepT p);have h2:=uh (c.t+1) (c.E++[c.t+p.2]);rw [vw,List.length_cons];simp only [qI.stepT,List.length_append,List.length_cons,List.length_nil]at h1 h2 ⊢;omega
end Go.Proofs.YtmeodbjlmjpnbaaGreat.U.Bo
namespace Go.Proofs.YtmeodbjlmjpnbaaGreat.U.Bo
open Go.Sort Go.RowKit Go.Proofs.YtmeodbjlmjpnbaaGreat.U.Gn
theorem tC (base g:Nat)(l:List UInt8)(w:World)(h:mD base g l w):Calls Tryz.prog 232 #[.pointer (some ⟨g,0,none⟩)] w fun e w'=>e=.returned (.int .i64 (l.length:Nat))∧w'=w:=by
 have key:∀p:Value,Lib.BuilderAtF 355 5 base g p (Lib.byteCells l) w → ∃v,w.cell? ⟨g,1,none⟩=some v∧(v=.slice none l.length 0 ∨ ∃g' c,v=.slice (some ⟨g',0,none⟩) l.length c):=by
  rintro p ⟨hB,v,hh,hown, -⟩;refine ⟨v,by simp [World.cell?,hh],?_⟩;rcases hown.2 with ⟨rfl,hn⟩|⟨g',cap,cur,fz,rfl, -⟩
  ·rw [Lib.byteCells_length]at hn;exact .inl (by rw [hn])
  ·exact .inr ⟨g',cap,by rw [Lib.byteCells_length]⟩
 obtain ⟨v,c1,hv⟩:∃v,w.cell? ⟨g,1,none⟩=some v∧(v=.slice none l.length 0 ∨ ∃g' c,v=.slice (some ⟨g',0,none⟩) l.length c):=by
  rcases h with h|h<;>exact key _ h
 clear h key;obtain ⟨n,hn⟩:=aU (l.length);rw [←hn]at hv ⊢;clear hn;rcases hv with rfl|⟨g',c,rfl⟩
 ·go_enter Tryz.func232,Tryz.ntmps232
  go_wp2
  go_ret
  exact ⟨rfl,rfl⟩
 ·go_enter Tryz.func232,Tryz.ntmps232
  go_wp2
  go_ret
  exact ⟨rfl,rfl⟩
theorem qa (e:Nat)(he:e<1073741824)(w:World):Calls Tryz.prog 233 #[.string ⟨#[93]⟩,.int .i64 (e:Int)] w fun r w'=>r=.returned (.string ⟨(List.replicate e (93:UInt8)).toArray⟩)∧Below w.heap.size w w' :=
 (Tryz.strings_Repeat ⟨#[93]⟩ e w (by omega) (by show 1*e≤_;omega)).mono fun _ _ ⟨hr,hb⟩=>⟨by
  rw [hr,show (⟨#[93]⟩:ByteArray).data.toList=List.replicate 1 93 from rfl,Lib.repeatL_replicate,Nat.mul_one],hb⟩
theorem D9 (g:Nat)(l:List UInt8)(w:World)(h:mD g g l w)(hb:g≤w.heap.size):Calls Tryz.prog 221 #[.pointer (some ⟨g,0,none⟩)] w fun e w'=>e=.returned (.string ⟨l.toArray⟩)∧Below g w w' ∧ ∀(k:Nat) (o:Obj),w.heap[k]?=some o→o.isCells=false→w'.heap[k]?=some o :=
 (Any.Builder_String_any_k Tryz.lays169 Tryz.Builder_Extra_169 g g l w h hb).mono fun _ _ ⟨he,_,hw,ho⟩=>⟨he,hw,fun k o hk hc=>ho k o hk (fun e=>by injection e with e;subst e;obtain ⟨-,cs,hg⟩:=h.block;rw [hg]at hk;cases hk;cases hc) (fun c fz e=>by subst e;cases hc)⟩
theorem FO (o:List UInt8):(sep o).length≤1:=by unfold sep;split<;>simp
def Ie (W W':World):Prop:=∀(k:Nat) (cs:Array Value) (t:TypeId) (z:Nat×Nat),W.heap[k]?=some (.cells cs t z)→t≠125→W'.heap[k]?=some (.cells cs t z)
theorem zQ {base g:Nat}{l:List UInt8}{w w':World}(h:mD base g l w)(hk:∀(k:Nat) (cs:Array Value) (t:TypeId) (z:Nat×Nat),w.heap[k]?=some (.cells cs t z)→t=355∨t=5→w'.heap[k]?=some (.cells cs t z)):mD base g l w':=by
 have key:∀p:Value,Lib.BuilderAtF 355 5 base g p (Lib.byteCells l) w→Lib.BuilderAtF 355 5 base g p (Lib.byteCells l) w':=by
  rintro p ⟨hB,v,hh,⟨h1,h2⟩,hne⟩;refine ⟨hB,v,hk _ _ _ _ hh (.inl rfl),⟨h1,?_⟩,hne⟩;rcases h2 with hn|⟨g',cap,cur,fz,e,hb,hg,r⟩
  ·exact .inl hn
  ·exact .inr ⟨g',cap,cur,fz,e,hb,hk _ _ _ _ hg (.inr rfl),r⟩
 exact h.imp (key _) (key _)
theorem zh {base bt be t:Nat}{E:List Nat}{w w':World}(h:Cn w base bt be t E)(hk:∀(k:Nat) (cs:Array Value) (t:TypeId),w.heap[k]?=some (.cells cs t (0,0))→yt t→w'.heap[k]?=some (.cells cs t (0,0))):Cn w' base bt be t E:=by
 obtain ⟨tt,⟨v,bV,h1,h2⟩,te,eb⟩:=h;refine ⟨hk _ _ _ tt (.inl rfl),⟨v,hk _ _ _ bV (.inr rfl),h1,?_⟩,te,eb⟩;rcases h2 with hn|⟨g',cap,cur,e,hb,hg,r⟩
 ·exact .inl hn
 ·exact .inr ⟨g',cap,cur,e,hb,hk _ _ _ hg (.inl rfl),r⟩
structure Sv (w0:World)(base bt be g en:Nat)(c:qI)(W:World):Prop where
 cn:Cn W base bt be c.t c.E
 bl:mD g g c.o W
 en:W.heap[en]?=some (.cells #[GQ bt be] 60 (0,0))
 low:Below w0.heap.size w0 W
 sz:base≤W.heap.size
 gw:w0.heap.size≤g∧w0.heap.size≤bt∧g<W.heap.size
section
variable {w0 W W':World}{base bt be g en:Nat}{c:qI}
theorem Sv.kept (h:Sv w0 base bt be g en c W)(hc:Ie W W')(hb:Below w0.heap.size w0 W')(hs:W.heap.size≤W'.heap.size):Sv w0 base bt be g en c W' :=
 ⟨zh h.cn fun k cs t e ht=>hc _ _ _ _ e (by rcases ht with rfl|rfl<;>decide),zQ h.bl fun k cs t z e ht=>hc _ _ _ _ e (by rcases ht with rfl|rfl<;>decide),hc _ _ _ _ h.en (by decide),hb,Nat.le_trans h.sz hs,h.gw.1,h.gw.2.1,Nat.lt_of_lt_of_le h.gw.2.2 hs⟩
theorem Sv.stay (h:Sv w0 base bt be g en c W)(hb:Below W.heap.size W W'):Sv w0 base bt be g en c W' :=
 h.kept (fun k _ _ _ e _=>(hb.block k (lt_of_heap e)).trans e) (h.low.trans (hb.mono h.low.size)) hb.size
theorem Sv.own (B:Nat)(hB:w0.heap.size≤B)(f:List Pr→qI):OwnFrom B (fun pre W=>Sv w0 base bt be g en (f pre) W):=by
 intro s A C row h hg hr;refine h.kept (fun k cs t z e _=>(hg.block k (lt_of_heap e) fun er=>?_).trans e) (h.low.grown hg h.low.size (fun r e=>Nat.le_trans hB (hr r e).1)) hg.size;obtain ⟨-,o,ho,hc⟩:=hr k er.symm;rw [e]at ho;cases ho;cases hc
theorem Sv.mv {B:Nat}(hB:w0.heap.size≤B)(h:Sv w0 base bt be g en c W)(hm:Mv B FW W W')(hs:B≤W.heap.size):Sv w0 base bt be g en c W' :=
 h.kept (fun _ _ _ _ e ht=>hm.cells e ht) (h.low.trans ((hm.Ic hs).mono hB)) hm.size
theorem Sv.asked (h:Sv w0 base bt be g en c W){t':Nat}{E':List Nat}(hc:Cn W' base bt be t' E')(hm:Mv bt yt W W'):Sv w0 base bt be g en ⟨t',E',c.o⟩ W':=by
 have hbs:bt≤W.heap.size:=Nat.le_trans (Nat.le_of_lt (Nat.lt_trans h.cn.te h.cn.eb)) h.sz;refine ⟨hc,zQ h.bl fun k cs t z e ht=>hm.cells e fun hi=>?_,hm.cells h.en fun hi=>?_,h.low.trans ((hm.Ic hbs).mono h.gw.2.1),Nat.le_trans h.sz hm.size,h.gw.1,h.gw.2.1,Nat.lt_of_lt_of_le h.gw.2.2 hm.size⟩
 ·rcases ht with rfl|rfl<;>exact absurd hi (by unfold yt;decide)
 ·exact absurd hi (by unfold yt;decide)
theorem Sv.wrote (h:Sv w0 base bt be g en c W){l:List UInt8}(hb:mD g g l W')(hw:Wrote g g W W'):Sv w0 base bt be g en ⟨c.t,c.E,l⟩ W':=by
 obtain ⟨-,cs,hg⟩:=h.bl.block;have key:∀(k:Nat) (cs':Array Value) (t:TypeId) (z:Nat×Nat),W.heap[k]?=some (.cells cs' t z)→t≠355→t≠5→W'.heap[k]?=some (.cells cs' t z):=fun k cs' t z e h1 h2=>hw.heap e (fun ek=>by subst ek;rw [hg]at e;cases e;exact h1 rfl) h2;exact ⟨zh h.cn fun k cs' t e ht=>key _ _ _ _ e (by rcases ht with rfl|rfl<;>decide) (by rcases ht with rfl|rfl<;>decide),hb,key _ _ _ _ h.en (by decide) (by decide),h.low.trans (hw.below.mono h.gw.1),Nat.le_trans h.sz hw.below.size,h.gw.1,h.gw.2.1,Nat.lt_of_lt_of_le h.gw.2.2 hw.below.size⟩
end
structure Pg (B:Nat)(W W':World):Prop where
 k:KeepsFrom B W W'
 n:bO xU W W'
section
variable {B:Nat}{U W W':World}
theorem Pg.refl (B:Nat)(W:World):Pg B W W:=⟨KeepsFrom.refl B W,bO.refl W⟩
theorem Pg.trans (h:Pg B U W)(k:Pg B W W'):Pg B U W':=⟨h.k.trans k.k,h.n.trans k.n⟩
theorem Pg.below (h:Below W.heap.size W W'):Pg B W W':=⟨⟨h.size,fun k _ _ hk _=>(h.block k (Array.getElem?_eq_some_iff.1 hk).1).trans hk⟩,bO.below h⟩
theorem Pg.mv {base:Nat}(h:Mv base yt W W'):Pg B W W' :=
 ⟨⟨h.size,fun k o _ hk ho=>(h.block k (Array.getElem?_eq_some_iff.1 hk).1 (.inr fun cs t z e=>by rw [hk]at e;cases e;cases ho)).trans hk⟩,fun k cs t ht e=>h.cells e fun hi=>by
  rcases hi with rfl|rfl<;>exact absurd ht (by unfold xU au Hp.au dV;decide)⟩
theorem Pg.wrote {g:Nat}{l:List UInt8}(hb:mD g g l W)(h:Wrote g g W W'):Pg B W W':=by
 obtain ⟨-,cs,hg⟩:=hb.block;refine ⟨⟨h.below.size,fun k o _ hk ho=>h.others k o hk (fun e=>by cases e;rw [hg]at hk;cases hk;cases ho) (fun c fz e=>by subst e;cases ho)⟩,fun k cs' t ht e=>h.heap e (fun ek=>?_) (fun et=>?_)⟩
 ·subst ek;rw [hg]at e;cases e;exact absurd ht (by unfold xU au Hp.au dV;decide)
 ·subst et;exact absurd ht (by unfold xU au Hp.au dV;decide)
end
end Go.Proofs.YtmeodbjlmjpnbaaGreat.U.Bo
namespace Go.Proofs.YtmeodbjlmjpnbaaGreat.U.Bo
open Go.Sort Go.RowKit Go.Proofs.YtmeodbjlmjpnbaaGreat.U.Gn Go.Shelf
attribute [local go_sem] Oper.semAt_some
theorem yj [Tb](x:Int×Int)(q:List (Gn.ai Lh))(p:Option Addr)(w:World)(he:Env w)(h:aA w (.node x q) p)(hf:fits (Lh.node x q).all):Calls Tryz.prog 213 #[hp p] w fun e w'=>e=.returned (.string ⟨(Lh.node x q).aM.toArray⟩)∧Below w.heap.size w w':=by
 obtain ⟨o,b,s,n,rfl,rfl,hN⟩:=qb.of h;refine (callsIn_wide (n:=3)).1 ?_;refine callsIn_of_wp_marks Tryz.func213 rfl trivial ?_ rfl;simp only [Tryz.ntmps213,List.size_toArray,List.length_cons,List.length_nil,Nat.reduceAdd,Nat.reduceSub,Array.replicate_succ,Array.replicate_zero,List.push_toArray,List.append_toArray,List.nil_append,List.cons_append];have HE:=hdz (af he (af h hf));clear he h hf;gi_wp2
 refine ⟨trivial,?_⟩;have hb1:Below w.heap.size w ((w.alloc (.cells #[.pointer (some ⟨b,0,none⟩)] 127)).alloc (.cells #[.pointer none,.slice none 0 0] 355)):=new2 w _ _;have bl:=qw (w.alloc (.cells #[.pointer (some ⟨b,0,none⟩)] 127));simp only [World.size_alloc]at bl
 have hv:bJ ((w.alloc (.cells #[.pointer (some ⟨b,0,none⟩)] 127)).alloc (.cells #[.pointer none,.slice none 0 0] 355)) w.heap.size (some ⟨b,0,none⟩):=by
  show _=_;rw [alloc_old _ (by simp only [World.size_alloc];omega)];exact aJ rfl
 refine (callsIn_wide.2 (Ao _)).mono ?_;rintro e w2 ⟨bt,be,rfl,hc,hbt,hb2⟩;unfold GQ;have bl2:=bl.stay hb2;have v2:bJ w2 w.heap.size (some ⟨b,0,none⟩):=(hb2.block _ (lt_of_heap hv)).trans hv;have hs2:=hb2.size;simp only [World.size_alloc]at hs2 hbt;have hb3:Below w.heap.size w w2:=hb1.trans (hb2.mono hb1.size);have a0:(w2.alloc (.cells #[.func (.func 239) #[] #[.pointer (some ⟨be,0,none⟩),.pointer (some ⟨bt,0,none⟩)]] 60)).cell? ⟨w.heap.size,0,none⟩=some (.pointer (some ⟨b,0,none⟩)):=dP v2.c0 _;have hmf:∀(fn:Fn) (first cap:Array Value) (w:World),(Instr.makeFunc fn first cap).run Tryz.prog w=.ok (.func fn first cap) w:=fun _ _ _ _=>rfl
 have S0:=hdz (show Sv w w2.heap.size bt be (w.heap.size+1) w2.heap.size (wm.runT []) (w2.alloc (.cells #[.func (.func 239) #[] #[.pointer (some ⟨be,0,none⟩),.pointer (some ⟨bt,0,none⟩)]] 60)) from
  ⟨zh hc fun k cs t e _=>(alloc_old _ (lt_of_heap e)).trans e,bl2.stay (bG _),aJ rfl,hb3.alloc hb3.size _,by simp,by omega,by omega,by simp only [World.size_alloc];omega⟩)
 clear hb1 bl hv hc bl2 hb2;gi_wp2
 obtain ⟨w3,hw3⟩:=aU (w2.alloc (.cells #[.func (.func 239) #[] #[.pointer (some ⟨be,0,none⟩),.pointer (some ⟨bt,0,none⟩)]] 60));rw [←hw3]at S0 a0 ⊢;have hs3:w3.heap.size=w2.heap.size+1:=by rw [hw3,World.size_alloc]
 have hb4:Below w.heap.size w w3:=by rw [hw3];exact hb3.alloc hb3.size _
 have HT:=jd (.node x (heaps o)) b (3 - 1) (by omega) w3 (HE.out.2.1.stay hb4) rfl;have HS:=hdz (af hs3 (af hs2 (af hbt hb4)));clear hw3 hb3 v2 hs2 hbt hs3 a0
 refine zu rfl (by omega) (gf := 231) (fs:=#[.pointer (some ⟨b,0,none⟩)]) rfl trivial (enters_of Tryz.func231 (by kernel_rfl) rfl) HT
  (fun pre W=>Sv w w2.heap.size bt be (w.heap.size+1) w2.heap.size (wm.runT pre) W) (Sv.own _ hb4.size _)
  (fun s A B h hm=>h.mv hb4.size hm (by have:=lt_of_heap h.en;have:=HS.out.1;omega)) S0.out
  (fun p a1 W => ∃rb,a1={ tmps:=#[hp (some ⟨b,0,none⟩),.pointer (some ⟨w.heap.size,0,none⟩),.string ⟨#[]⟩,.pointer (some ⟨w.heap.size+1,0,none⟩),.pointer (some ⟨w2.heap.size,0,none⟩),.pointer (some ⟨rb,0,none⟩),.int .i64 (p.2:Int),.pointer (some ⟨w.heap.size,0,none⟩),.pointer (some ⟨b,0,none⟩),.bool false,.func (.func 239) #[] #[.pointer (some ⟨be,0,none⟩),.pointer (some ⟨bt,0,none⟩)],.pointer (some ⟨w.heap.size,0,none⟩),.pointer (some ⟨b,0,none⟩),.func (.func 231) #[.pointer (some ⟨b,0,none⟩)] #[],el p.1,.int .i64 (p.2:Int),undef,undef,undef,undef,undef,undef,undef,undef,undef,undef,undef,undef,undef],defers:=[] }∧W.heap[rb]?=some (.cells #[.int .i64 p.1.1,.int .i64 p.1.2] 29 (0,0))) ?hJ ?assign ?body ?done
 case hJ =>
  rintro x a1 s A C row ⟨rb,ha,hbx⟩ hg hr;refine ⟨rb,ha,(hg.block rb (lt_of_heap hbx) fun er=>?_).trans hbx⟩;obtain ⟨-,o,ho,hc⟩:=hr rb er.symm;rw [hbx]at ho;cases ho;cases hc
 case assign =>
  rintro l ⟨⟨x1,x2⟩,m⟩ W K hK;dsimp only [Hy,H7]at hK ⊢
  gi_wp2
  exact hK _ _ ⟨W.heap.size,rfl,aJ rfl⟩ (bG _)
 case body =>
  rintro l pre ⟨⟨x1,x2⟩,m⟩ a1 W ⟨rb,rfl,hrb⟩ hI hpre;have hmem:((x1,x2),m)∈(Lh.node x (heaps o)).pre:=hpre.subset (by simp);obtain ⟨hin,hm1⟩:=Cc _ _ hmem;have hx:=HE.out.2.2 _ hin;have hlen:=hpre.length_le;rw [List.length_append,wC]at hlen;have hsm:=HE.out.2.1.small;obtain ⟨s1,s2⟩:=wX pre wm (fun p hp=>HE.out.2.2 _ (Cc _ _ (hpre.subset (List.mem_append_left _ hp))).1) (Nat.zero_le _);have s3:=Et pre wm;obtain ⟨C,hC⟩:=aU (wm.runT pre);have hrun:wm.runT (pre++[((x1,x2),m)])=C.stepT ((x1,x2),m):=by rw [vT,←hC];rfl
  rw [←hC]at s1 s2 s3;have hI:Sv w w2.heap.size bt be (w.heap.size+1) w2.heap.size C W:=by rw [hC];exact hI
  obtain ⟨u,hu⟩:=aU (nW x1 x2);obtain ⟨K,hK⟩:=aU (C.ends m);have hul:=dW x1 x2 hx.1 hx.2;rw [←hu]at hul;have HST:=hdz (show wm.runT (pre++[((x1,x2),m)])=⟨C.t+1,cut (C.t+1) (C.E++[C.t+m]),C.o++sep C.o++(91::(u++List.replicate K 93))⟩ from by rw [hrun,hu,hK];rfl)
  have HN:=hdz (show C.E.length<536870912∧C.t<536870912∧m<536870912∧C.o.length+K<17179869184∧u.length≤43∧K<1073741824 from by
   have h7:=uh (C.t+1) (C.E++[C.t+m]);simp only [wm,List.length_nil,Nat.zero_add,List.length_cons]at s1 s2 s3 hlen;have h8:K≤C.E.length+1:=by rw [hK];unfold qI.ends;rw [List.length_append];simp
   simp only at hm1;omega)
  have HTX:=hdz (fun W (hW:Below w.heap.size w W)=>(show Calls Tryz.prog 225 #[.agg #[.int .i64 x1,.int .i64 x2]] W (fun e w'=>e=.returned (.string ⟨u.toArray⟩)∧Below W.heap.size W w') from hu▸uF x1 x2 hx.1 hx.2 W (HE.out.1.below hW)));have HEN:=hdz (fun W (h:Cn W w2.heap.size bt be C.t C.E) (h2:w2.heap.size≤W.heap.size)=>(show Calls Tryz.prog 239 #[.int .i64 (m:Int),.pointer (some ⟨be,0,none⟩),.pointer (some ⟨bt,0,none⟩)] W (fun e w'=>e=.returned (.int .i64 (K:Int))∧Cn w' w2.heap.size bt be (C.t+1) (cut (C.t+1) (C.E++[C.t+m]))∧Mv bt yt W w') from hK▸Dh w2.heap.size bt be C.t m C.E W h h2 HN.out.1 HN.out.2.1 HN.out.2.2.1));have HI:=hdz hI;have HRB:=hdz hrb;clear hI hrb hmem hin hm1 hx hlen hsm s1 s2 s3 hu hK hul hC hpre HT hrun;have hmix:Tryz.prog.follows Departure.mixedOrders=true:=by kernel_rfl
  obtain ⟨ol,hol⟩:=aU (C.o.length);have HLN:=hdz (show Calls Tryz.prog 232 #[.pointer (some ⟨w.heap.size+1,0,none⟩)] W (fun e w'=>e=.returned (.int .i64 (ol:Int))∧w'=W) from hol▸tC _ _ _ W HI.out.bl);by_cases h0:C.o=[]
  focus
   have e0:ol=0:=by rw [hol,h0];rfl
   have g1:¬(0:Int)<(ol:Int):=by omega
   have g2:decide ((0:Int)<(ol:Int))=false:=by simp;omega
   have g3:¬0<ol:=by omega
   have HB:=hdz (show Sv w w2.heap.size bt be (w.heap.size+1) w2.heap.size ⟨C.t,C.E,C.o++sep C.o⟩ W from by rw [h0];simp only [sep,if_true,List.append_nil];have:=HI.out;rw [←h0];exact this);have HP:=hdz (af HRB.out (Pg.refl w3.heap.size W));clear h0 e0 hol;gi_wp2_with (refine ⟨trivial,?_⟩;gi_at_call 232;refine (CallsIn.inRound l (callsIn_wide.2 HLN.out)).mono ?_;rintro e w4 ⟨rfl,hw4⟩;have hw4:=hw4.symm;subst hw4)
   obtain ⟨WB,hWB⟩:=aU (W);rw [←hWB];conv at HB=>rw [←hWB]
   conv at HP=>arg 1;arg 1;rw [←hWB]
   conv at HP=>arg 1;arg 2;arg 3;rw [←hWB]
   clear hWB
  rotate_left
  focus
   have e0:0<ol:=by rw [hol];exact List.length_pos_iff.2 h0
   have g1:(0:Int)<(ol:Int):=by omega
   have g2:decide ((0:Int)<(ol:Int))=true:=decide_eq_true g1;have hse:sep C.o=[32]:=if_neg h0;clear h0 hol;gi_wp2_with (first|(refine ⟨trivial,?_⟩;gi_at_call 232;refine (CallsIn.inRound l (callsIn_wide.2 HLN.out)).mono ?_;rintro e w4 ⟨rfl,hw4⟩;have hw4:=hw4.symm;subst hw4)|(refine ⟨trivial,?_⟩;gi_at_call 224;refine (CallsIn.inRound l (callsIn_wide.2 (lS (w.heap.size+1) (w.heap.size+1) C.o [32] _ W rfl HI.out.bl (by have:=HN.out;simp only [List.length_cons,List.length_nil];omega) (Nat.le_of_lt HI.out.gw.2.2)))).mono ?_;rintro e WB ⟨v5,rfl,hB5,hW5⟩;have HB:=hdz (show Sv w w2.heap.size bt be (w.heap.size+1) w2.heap.size ⟨C.t,C.E,C.o++sep C.o⟩ WB from hse.symm▸HI.out.wrote hB5 hW5);have HP:=hdz (af (hW5.heap HRB.out (uz HRB.out (HI.out.bl.block.2.choose_spec) (by decide)) (by decide)) (Pg.wrote (B:=w3.heap.size) HI.out.bl hW5));clear hB5 hW5))
   clear e0 g1 g2 hse
  rotate_left
  all_goals
   have r0:WB.cell? ⟨rb,0,none⟩=some (.int .i64 x1):=by have h:=HP.out.1;simp [World.cell?,h]
   have r1:WB.cell? ⟨rb,1,none⟩=some (.int .i64 x2):=by have h:=HP.out.1;simp [World.cell?,h]
   have en0:WB.cell? ⟨w2.heap.size,0,none⟩=some (.func (.func 239) #[] #[.pointer (some ⟨be,0,none⟩),.pointer (some ⟨bt,0,none⟩)]):=by have h:=HB.out.en;simp [World.cell?,h]
   have n1:¬9223372036854775807<u.length+1:=by have:=HN.out;omega
   have n2:¬9223372036854775807<u.length+1+K:=by have:=HN.out;omega
   gi_region_with_o (first
    | (refine ⟨trivial,?_⟩;gi_at_call 225;refine (CallsIn.inRound l (callsIn_wide.2 (HTX.out _ (HB.out.low.drew)))).mono ?_;rintro e w6 ⟨rfl,hb6⟩;have hb6:=((Below.refl WB.heap.size WB).drew).trans hb6;have S6:=hdz (af (HB.out.stay hb6) (Pg.below (B:=w3.heap.size) hb6));have en6:w6.cell? ⟨w2.heap.size,0,none⟩=some (.func (.func 239) #[] #[.pointer (some ⟨be,0,none⟩),.pointer (some ⟨bt,0,none⟩)]):=(by have h:=S6.out.1.en;simp [World.cell?,h]);clear hb6)
    | (refine ⟨trivial,?_⟩;gi_at_call 239;refine (CallsIn.inRound l (callsIn_wide.2 (HEN.out _ S6.out.1.cn S6.out.1.sz))).mono ?_;rintro e w7 ⟨rfl,hc7,hm7⟩;have S7:=hdz (af (S6.out.1.asked hc7 hm7) (S6.out.2.trans (Pg.mv hm7)));clear hc7 hm7)
    | (refine ⟨trivial,?_⟩;gi_at_call 233;refine (CallsIn.inRound l (callsIn_wide.2 (qa K HN.out.2.2.2.2.2 _))).mono ?_;rintro e w8 ⟨rfl,IB⟩;have S8:=hdz (af (S7.out.1.stay IB) (S7.out.2.trans (Pg.below IB)));clear IB)
    | (refine ⟨trivial,?_⟩;gi_at_call 224;refine (CallsIn.inRound l (callsIn_wide.2 (lS (w.heap.size+1) (w.heap.size+1) (C.o++sep C.o) (91::(u++List.replicate K 93)) _ _ (by rw [show (⟨#[91]⟩:ByteArray)=⟨[91].toArray⟩ from rfl,lC,lC];simp) S8.out.1.bl (by have:=HN.out;have:=FO C.o;simp only [List.length_append,List.length_cons,List.length_replicate];omega) (Nat.le_of_lt S8.out.1.gw.2.2)))).mono ?_;rintro e w9 ⟨v9,rfl,hB9,hW9⟩))
   all_goals
    have hS9:=S8.out.1.wrote hB9 hW9;have hP9:=(HP.out.2.trans S8.out.2).trans (Pg.wrote S8.out.1.bl hW9);exact ⟨hP9.k,hP9.n,show Sv w w2.heap.size bt be (w.heap.size+1) w2.heap.size (wm.runT (pre++[((x1,x2),m)])) w9 from HST.out.symm▸hS9⟩
 case done =>
  rintro D W hD hI hK;have hok:=HE.out.2.1.right;have ht:=Di hok rfl;have HK:=hdz hK;gi_wp2_with (refine ⟨trivial,?_⟩;gi_at_call 221;refine (callsIn_wide.2 (D9 (w.heap.size+1) _ W hI.bl (by have:=hI.gw.2.2;omega))).mono ?_;rintro e w4 ⟨rfl,hb5,hk5⟩)
  have hK2:=hk5 D _ HK.out rfl;refine ⟨by simp,.inl ⟨_,_,rfl,run_takeDeferred hK2,?_⟩⟩;refine ⟨_,results_tmp rfl _ _ _,by rw [←ht];rfl,?_⟩;have h6:Below w.heap.size w w4:=hI.low.trans (hb5.mono (by omega));exact h6.trans (belowK_b (w:=w) (Nat.le_refl _) w4 D _ _ (Nat.le_trans hb4.size hD) hK2 rfl rfl)
end Go.Proofs.YtmeodbjlmjpnbaaGreat.U.Bo
namespace Go.Proofs.YtmeodbjlmjpnbaaGreat.U.Bo
open Go.Sort Go.RowKit Go.Proofs.YtmeodbjlmjpnbaaGreat.U.Gn
theorem gI [Tb](t:Lh)(p:Option Addr)(w:World)(he:Env w)(h:aA w t p)(hf:fits t.all)(_:t.size<268435456):Calls Tryz.prog 213 #[hp p] w fun e w'=>e=.returned (.string ⟨t.aM.toArray⟩)∧Below w.heap.size w w':=by
 cases t with
 | nil =>
  obtain rfl:=h.no;have hb1:Below w.heap.size w (w.alloc (.cells #[.pointer none] 127)):=bG _;clear he h hf;refine (callsIn_wide (n:=3)).1 ?_;refine callsIn_of_wp_marks Tryz.func213 rfl trivial ?_ rfl;simp only [Tryz.ntmps213,List.size_toArray,List.length_cons,List.length_nil,Nat.reduceAdd,Nat.reduceSub,Array.replicate_succ,Array.replicate_zero,List.push_toArray,List.append_toArray,List.nil_append,List.cons_append];gi_wp2
  exact ⟨_,results_tmp rfl _ _ _,rfl,hb1⟩
 | node x q=>exact yj x q p w he h hf
end Go.Proofs.YtmeodbjlmjpnbaaGreat.U.Bo
