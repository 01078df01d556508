/- Contracts of a skew binomial heap's list (Drop, Rest, Of, Join, All), of the closure that seeks the least root, and of the place of the least one: which heap, which place, how many comparisons the meter counts, that what was there stays but for the meter's block. Conditions: counts below 2 to the 60th. -/
import Derived.Test.YtmeodbjlmjpnbaaGreatPsa
import Derived.Defers
import Derived.Recover
import Derived.Deep.LoopGhost
import Derived.Test.YtmeodbjlmjpnbaaGreatPt
import Derived.Test.YtmeodbjlmjpnbaaGreatPa
import Derived.Handy
set_option maxRecDepth 100000
set_option maxHeartbeats 4000000
namespace Go.Proofs.YtmeodbjlmjpnbaaGreat.Sk.Hp
open Go.Sort Go.RowKit
theorem iO:∀a b:List ai,ah (a++b)=ah a+ah b
 | [],b=>by simp [ah]
 | t::r,b=>by simp only [List.cons_append,ah,iO r b];omega
theorem gu (l:List ai)(i:Nat):ah (l.drop i)≤ah l:=by
 conv=>rhs;rw [←List.take_append_drop i l]
 rw [iO];omega
section
variable {w:World}{ts us:List ai}{p q:HP}
theorem jT (h:aA w ⟨ts⟩ p)(k:Nat)(hk:k<2147483648):Calls Tryz.prog 147 #[hp p,.int .i64 (k:Int)] w fun e w' => ∃p':HP,e=.returned (.agg #[.pointer p'.q,.int .i64 p'.n])∧aA w' ⟨ts.drop k⟩ p'∧Below w.heap.size w w':=by
 have hs:=h.small;have hok:fZ ts:=h.right;obtain ⟨ps,n,hn,hnl,hl,ht⟩:=h.list;obtain ⟨q0,pn⟩:=p;change pn=(n:Int) at hn;subst hn;refine (Lt.uV (k:Int) hl (by omega) (by omega)).mono fun e w' ⟨q',n',he,hl',hb⟩=>⟨⟨q',(n':Int)⟩,he,?_,hb⟩;rw [show (k:Int).toNat=k from rfl]at hl';exact aA.of hl' ((ht.drop k).kp (bO.below hb)) (Nat.lt_of_le_of_lt (gu ts k) hs) (jw hok (List.drop_sublist k ts))
theorem eZ (h:aA w ⟨ts⟩ p):Calls Tryz.prog 144 #[hp p] w fun e w' => ∃p':HP,e=.returned (.agg #[.pointer p'.q,.int .i64 p'.n])∧aA w' ⟨ts.tail⟩ p'∧Below w.heap.size w w':=by
 have hs:=h.small;have hok:fZ ts:=h.right;obtain ⟨ps,n,hn,hnl,hl,ht⟩:=h.list;obtain ⟨q0,pn⟩:=p;change pn=(n:Int) at hn;subst hn;refine (Lt.oC hl).mono fun e w' ⟨q',n',he,hl',hb⟩=>⟨⟨q',(n':Int)⟩,he,?_,hb⟩;refine aA.of hl' (ht.tail.kp (bO.below hb)) ?_ (jw hok (List.tail_sublist ts));rw [←List.drop_one];exact Nat.lt_of_le_of_lt (gu ts 1) hs
theorem xu {A:Option Addr}{n c:Nat}{ps:List (Option Addr)}(hr:Row1 Lt.one w A ps)(ht:aS w ts ps)(hn:n=ts.length)(hs:ah ts<268435456)(hok:fZ ts):Calls Tryz.prog 312 #[.slice A n c] w fun e w' => ∃p':HP,e=.returned (.agg #[.pointer p'.q,.int .i64 p'.n])∧aA w' ⟨ts⟩ p'∧Below w.heap.size w w':=by
 have hl:=bW ts;refine (Lt.Bg (hn.trans ht.length.symm) hr (by omega)).mono fun e w' ⟨q',n',he,hl',hb⟩=>⟨⟨q',(n':Int)⟩,he,?_,hb⟩;exact aA.of hl' (ht.kp (bO.below hb)) hs hok
theorem jB (h:aA w ⟨ts⟩ p)(h':aA w ⟨us⟩ q)(hs:ah (ts++us)<268435456)(hok:fZ (ts++us)):Calls Tryz.prog 313 #[hp p,hp q] w fun e w' => ∃p':HP,e=.returned (.agg #[.pointer p'.q,.int .i64 p'.n])∧aA w' ⟨ts++us⟩ p'∧Below w.heap.size w w':=by
 have g1:=h.len;have g2:=h'.len;change ts.length<_ at g1;change us.length<_ at g2;obtain ⟨ps,n,hn,hnl,hl,ht⟩:=h.list;obtain ⟨ps',n',hn',hnl',hl',ht'⟩:=h'.list;obtain ⟨q0,pn⟩:=p;obtain ⟨q1,pn'⟩:=q;change pn=(n:Int) at hn;change pn'=(n':Int) at hn';change n=ts.length at hnl;change n'=us.length at hnl';subst hn;subst hn';refine (Lt.zC hl hl' (by omega)).mono fun e w' ⟨q',m',he,hl2,hb⟩=>⟨⟨q',(m':Int)⟩,he,?_,hb⟩;exact aA.of hl2 ((ht.append ht').kp (bO.below hb)) hs hok
end
structure fD (mo:Option Nat)(W:World)(ts:List ai)(A:Option Addr)(n c:Nat):Prop where
 ex:∃ps,Row1 Lt.one W A ps∧aS W ts ps
 len:n=ts.length
 cap:n≤c
 apart:∀b,mo=some b → ∀a,A=some a→a.block≠b
section
variable {mo:Option Nat}{cc m:Int}{W W':World}{ts:List ai}{A:Option Addr}{n c:Nat}
theorem fD.bt (h:fD mo W ts A n c)(hb:Bt mo W W')(hm:aW W mo cc m):fD mo W' ts A n c:=by
 obtain ⟨ps,hr,ht⟩:=h.ex;exact ⟨⟨ps,fun h0=>(hr h0).imp fun b hb1=>hb1.imp fun o ho=>⟨ho.1,fun j hj=>hb.cell (ho.2 j hj) (fun mb e=>h.apart mb e ⟨b,o,none⟩ ho.1)⟩,ht.bt hb hm⟩,h.len,h.cap,h.apart⟩
theorem fD.stay (h:fD mo W ts A n c)(hb:Below W.heap.size W W'):fD mo W' ts A n c:=by
 obtain ⟨ps,hr,ht⟩:=h.ex;exact ⟨⟨ps,hr.stay hb,ht.kp (bO.below hb)⟩,h.len,h.cap,h.apart⟩
theorem fD.set2 (h:fD mo W ts A n c){b:Nat}{t:TypeId}{x y:Value}(hne:∀a,A=some a→a.block≠b)(hx:aB W b t x y)(ht:¬au t)(u v:Value):fD mo ((W.setCell ⟨b,0,Option.none⟩ u).setCell ⟨b,1,Option.none⟩ v) ts A n c:=by
 obtain ⟨ps,hr,hts⟩:=h.ex;exact ⟨⟨ps,fun h0=>(hr h0).imp fun b' hb1=>hb1.imp fun o ho=>⟨ho.1,fun j hj=>gG (hne ⟨b',o,none⟩ ho.1) (ho.2 j hj) u v⟩,hts.set2 hx ht u v⟩,h.len,h.cap,h.apart⟩
theorem fD.at (h:fD mo W ts A n c){j:Nat}(hj:j<n):∃b o p,A=some ⟨b,o,none⟩∧W.cell? ⟨b,o+j,none⟩=some (.pointer p)∧gQ W p (some (ts[j]'(h.len▸hj))):=by
 obtain ⟨ps,hr,ht⟩:=h.ex;have hl:=ht.length;obtain ⟨p,hp,hta⟩:=ht.at (List.getElem?_eq_getElem (h.len▸hj));obtain ⟨b,o,rfl⟩:=jW hr (by have:=h.len;omega);exact ⟨b,o,p,rfl,jP hr hp,hta⟩
theorem fD.take (h:fD mo W ts A n c)(k:Nat):∃ps,Row1 Lt.one W A ps∧aS W (ts.take k) ps:=by
 obtain ⟨ps,hr,ht⟩:=h.ex;refine ⟨ps.take k,fun h0=>?_,ht.take k⟩;rw [List.length_take]at h0;obtain ⟨b,o,e,hc⟩:=hr (by omega);refine ⟨b,o,e,fun j hj=>?_⟩;rw [List.length_take]at hj;rw [List.getElem_take];exact hc j (by omega)
end
theorem pQ {mo:Option Nat}{cc m:Int}{ts:List ai}{p:HP}{w:World}(h:aA w ⟨ts⟩ p)(hm:aW w mo cc m):Calls Tryz.prog 223 #[hp p] w fun e w' => ∃(A:Option Addr) (n c:Nat),e=.returned (.slice A n c)∧fD mo w' ts A n c∧(∀a,A=some a→w.heap.size≤a.block)∧Below w.heap.size w w':=by
 obtain ⟨ps,n,hn,hnl,hl,ht⟩:=h.list;obtain ⟨q0,pn⟩:=p;change pn=(n:Int) at hn;subst hn;refine (Lt.qK hl).mono fun e w' ⟨A,c,he,hmi,hr,hc,hb⟩=>⟨A,n,c,he,⟨⟨ps,hr,ht.kp (bO.below hb)⟩,hnl,hc,fun b e a ea=>?_⟩,fun a ea=>by subst ea;exact Mine.block hmi a.block rfl,hb⟩;subst e;subst ea;have h1:=Mine.block hmi a.block rfl;have h2:=hm.lt;omega
theorem kI (l:List ai){i:Nat}(h:0<i):cK l i=if dH (bq l i) (bq l (cK l (i - 1)))=true then i else cK l (i - 1):=by
 obtain ⟨j,rfl⟩:∃j,i=j+1:=⟨i - 1,by omega⟩;rfl
theorem ER (w:World):CallsD Tryz.prog 325 #[] .returning w fun e u' w'=>e=.returned (.tuple #[])∧u'=.returning∧w'=w:=by
 refine callsD_of_wpS Tryz.func325 rfl fun c₀ cs hu=>?_;apply wpS_region
 cases c₀
 simp_all [wpOpsS,go_sem,recoverD,bodyPostS,results,Tryz.ntmps325,Tryz.results325]
theorem xh (x:Int×Int)(w:World):Calls Tryz.prog 324 #[el x] w fun e w'=>e=.returned (el x)∧Below w.heap.size w w':=by
 obtain ⟨p,q⟩:=x;have hm:∀(n:Nat) (w:World),(method (n+1) 29 (.agg #[.int .i64 p,.int .i64 q]) "Key").run Tryz.prog w=.ok (204,.agg #[.int .i64 p,.int .i64 q]) w:=fun _ _=>by kernel_rfl
 go_enter_defers Tryz.func324,Tryz.ntmps324
 go_wp2_with fail
 ((with_reducible refine (vY (p,q) _).mono ?_);rintro e w1 ⟨rfl,hb1⟩);obtain ⟨-,hp,hb⟩:=duo hb1;have hs:=hp.set p q;obtain ⟨e0,e1,f0,f1, -⟩:=hp;clear hb1;go_wp2_with fail
 refine leaves_cons (f := 325) (args:=#[]) (by simp) (by simp [go_sem]) ?_;refine (ER _).mono ?_;rintro e u' w'' ⟨rfl,rfl,rfl⟩;obtain ⟨k0,k1, -⟩:=hs;have hv:Below w.heap.size w ((w1.setCell ⟨w.heap.size+1,0,none⟩ (.int .i64 p)).setCell ⟨w.heap.size+1,1,none⟩ (.int .i64 q)):=(hb.setCell (by simp) _).setCell (by simp) _;simp [Leaves,settle,results,Tryz.results324,go_sem,k0,k1,hv]
abbrev vH (W:World)(b:Nat)(t:TypeId)(v:Value):Prop:=W.heap[b]?=some (.cells #[v] t (0,0))
theorem lU {W:World}{b:Nat}{t:TypeId}{v:Value}(h:vH W b t v):W.cell? ⟨b,0,none⟩=some v:=by simp [World.cell?,h]
theorem pq {W:World}{b:Nat}{t:TypeId}{v:Value}(h:vH W b t v):W.frozen? ⟨b,0,none⟩=false:=by simp [World.frozen?,h]
theorem xw:¬au 4 := by unfold au dV;decide
structure Sk (mo:Option Nat)(W:World)(bm bl bs:Nat)(x:Int×Int)(is:Bool):Prop where
 m:vH W bm 49 (aF mo)
 l:aB W bl 29 (.int .i64 x.1) (.int .i64 x.2)
 s:vH W bs 4 (.bool is)
section
variable {W W':World}{mo:Option Nat}{c m:Int}{bm bl bs:Nat}{x:Int×Int}{is:Bool}
theorem Sk.bt (h:Sk mo W bm bl bs x is)(hb:Bt mo W W')(hm:aW W mo c m):Sk mo W' bm bl bs x is:=⟨hb.row hm h.m (by decide),h.l.bt hb hm (by decide),hb.row hm h.s (by decide)⟩
theorem Sk.stay (h:Sk mo W bm bl bs x is)(hb:Below W.heap.size W W'):Sk mo W' bm bl bs x is:=⟨(hb.block _ (lt_of_heap h.m)).trans h.m,h.l.stay hb,(hb.block _ (lt_of_heap h.s)).trans h.s⟩
end
abbrev GJ (bm bl bs:Nat):Value := .func (.func 323) #[] #[.pointer (some ⟨bs,0,none⟩),.pointer (some ⟨bm,0,none⟩),.pointer (some ⟨bl,0,none⟩)]
theorem sS (mo:Option Nat)(w:World):Calls Tryz.prog 319 #[aF mo] w fun e w' => ∃bm bl bs,e=.returned (GJ bm bl bs)∧Sk mo w' bm bl bs (0,0) false∧(w.heap.size≤bm∧w.heap.size≤bl∧w.heap.size≤bs)∧Below w.heap.size w w':=by
 have hmf:∀(fn:Fn) (first cap:Array Value) (w:World),(Instr.makeFunc fn first cap).run Tryz.prog w=.ok (.func fn first cap) w:=fun _ _ _ _=>rfl;have e1:(w.alloc (.cells #[aF mo] 49)).heap.size=w.heap.size+1:=by simp
 have e2:((w.alloc (.cells #[aF mo] 49)).alloc (.cells #[.int .i64 0,.int .i64 0] 29)).heap.size=w.heap.size+1+1:=by simp
 have hb1:Below w.heap.size w ((w.alloc (.cells #[aF mo] 49)).alloc (.cells #[.int .i64 0,.int .i64 0] 29)):=((Below.refl _ w).alloc (Nat.le_refl _) _).alloc (by simp) _;have hb2:Below w.heap.size w (((w.alloc (.cells #[aF mo] 49)).alloc (.cells #[.int .i64 0,.int .i64 0] 29)).alloc (.cells #[.bool false] 4)):=hb1.alloc (by omega) _
 have b1:vH (((w.alloc (.cells #[aF mo] 49)).alloc (.cells #[.int .i64 0,.int .i64 0] 29)).alloc (.cells #[.bool false] 4)) w.heap.size 49 (aF mo):=by
  have h:=aJ (W:=w) (o := .cells #[aF mo] 49) rfl;have h2:=(((Below.refl _ (w.alloc (.cells #[aF mo] 49))).alloc (Nat.le_refl _) (.cells #[.int .i64 0,.int .i64 0] 29)).alloc (by simp) (.cells #[.bool false] 4)).block w.heap.size (by simp);exact h2.trans h
 have b2:aB (((w.alloc (.cells #[aF mo] 49)).alloc (.cells #[.int .i64 0,.int .i64 0] 29)).alloc (.cells #[.bool false] 4)) (w.heap.size+1) 29 (.int .i64 0) (.int .i64 0):=by
  have:=(aB.new (w.alloc (.cells #[aF mo] 49)) 29 (.int .i64 0) (.int .i64 0)).alloc (.cells #[.bool false] 4);simpa only [e1] using this
 have b3:vH (((w.alloc (.cells #[aF mo] 49)).alloc (.cells #[.int .i64 0,.int .i64 0] 29)).alloc (.cells #[.bool false] 4)) (w.heap.size+1+1) 4 (.bool false):=aJ (by omega);have H:=hdz (af (show Sk mo _ w.heap.size (w.heap.size+1) (w.heap.size+1+1) (0,0) false from ⟨b1,b2,b3⟩) hb2);clear b1 b2 b3 hb1 hb2;go_enter Tryz.func319,Tryz.ntmps319
 go_wp2_with fail
 go_ret
 exact ⟨_,_,_,rfl,H.out.1,⟨Nat.le_refl _,by omega,by omega⟩,H.out.2⟩
structure Tn (mo:Option Nat)(b1 b2:Nat)(W W':World):Prop where
 os:W'.os=W.os
 tape:W'.tape=W.tape
 output:W'.output=W.output
 size:W.heap.size≤W'.heap.size
 block:∀k,k<W.heap.size→mo≠some k→k≠b1→k≠b2→W'.heap[k]?=W.heap[k]?
section
variable {W W' W'':World}{mo:Option Nat}{c m:Int}{b1 b2:Nat}{w:World}
theorem Tn.BP (h:Bt mo W W'):Tn mo b1 b2 W W':=⟨h.os,h.tape,h.output,h.size,fun k hk h1 _ _=>h.block k hk h1⟩
theorem Tn.trans (h:Tn mo b1 b2 W W')(k:Tn mo b1 b2 W' W''):Tn mo b1 b2 W W'' :=
 ⟨k.os.trans h.os,k.tape.trans h.tape,k.output.trans h.output,Nat.le_trans h.size k.size,fun i hi h1 h2 h3=>(k.block i (Nat.lt_of_lt_of_le hi h.size) h1 h2 h3).trans (h.block i hi h1 h2 h3)⟩
theorem Tn.bt (h:Tn mo b1 b2 W W')(hb:Bt mo w W)(h1:w.heap.size≤b1)(h2:w.heap.size≤b2):Bt mo w W' :=
 ⟨h.os.trans hb.os,h.tape.trans hb.tape,h.output.trans hb.output,Nat.le_trans hb.size h.size,fun k hk hm=>(h.block k (Nat.lt_of_lt_of_le hk hb.size) hm (by omega) (by omega)).trans (hb.block k hk hm)⟩
theorem Tn.set {b:Nat}(h:Tn mo b1 b2 W W')(hb:b=b1∨b=b2)(j:Nat)(v:Value):Tn mo b1 b2 W (W'.setCell ⟨b,j,none⟩ v) :=
 ⟨h.os,h.tape,h.output,by simpa [World.setCell] using h.size,fun k hk hm h1 h2=>(Below.heap_setCell W' ⟨b,j,none⟩ v k (by show k≠b;rcases hb with rfl|rfl<;>assumption)).trans (h.block k hk hm h1 h2)⟩
theorem Tn.oG {cs1 cs2:Array Value}{t1 t2:TypeId}(h:Tn mo b1 b2 W W')(hm:aW W mo c m)(h1:W.heap[b1]?=some (.cells cs1 t1 (0,0)))(h2:W.heap[b2]?=some (.cells cs2 t2 (0,0)))(n1:¬au t1)(n2:¬au t2):Kp W W':=fun k cs t ht e=>by
 refine (h.block k (lt_of_heap e) (fun em=>?_) (fun ek=>?_) (fun ek=>?_)).trans e
 ·subst em;have hm':W.heap[k]?=_:=hm;rw [hm']at e
  cases e
  exact ax ht
 ·subst ek;rw [h1]at e;cases e;exact n1 ht
 ·subst ek;rw [h2]at e;cases e;exact n2 ht
theorem fD.tn {cs1 cs2:Array Value}{t1 t2:TypeId}{ts:List ai}{A:Option Addr}{n k:Nat}(r:fD mo W ts A n k)(h:Tn mo b1 b2 W W')(hm:aW W mo c m)(h1:W.heap[b1]?=some (.cells cs1 t1 (0,0)))(h2:W.heap[b2]?=some (.cells cs2 t2 (0,0)))(n1:¬au t1)(n2:¬au t2)(ha:∀a,A=some a→a.block≠b1∧a.block≠b2):fD mo W' ts A n k:=by
 obtain ⟨ps,hr,hts⟩:=r.ex;refine ⟨⟨ps,fun h0=>(hr h0).imp fun b' hb1=>hb1.imp fun o ho=>⟨ho.1,fun j hj=>?_⟩,hts.kp (h.oG hm h1 h2 n1 n2)⟩,r.len,r.cap,r.apart⟩;have hc:=ho.2 j hj;exact (World.cell?_of_block (h.block b' (block_lt_of_cell hc) (fun e=>r.apart b' e ⟨b',o,none⟩ ho.1 rfl) (ha ⟨b',o,none⟩ ho.1).1 (ha ⟨b',o,none⟩ ho.1).2)).trans hc
end
theorem Sk.took {W w:World}{mo:Option Nat}{c m:Int}{bm bl bs:Nat}{x:Int×Int}{is:Bool}(h:Sk mo W bm bl bs x is)(hm:aW W mo c m)(ht:Tn mo bl bs w W)(hne:bs≠bl)(u1 u2:Int) :
  Sk mo (((W.setCell ⟨bl,0,none⟩ (.int .i64 u1)).setCell ⟨bl,1,none⟩ (.int .i64 u2)).setCell ⟨bs,0,none⟩ (.bool true)) bm bl bs (u1,u2) true∧aW (((W.setCell ⟨bl,0,none⟩ (.int .i64 u1)).setCell ⟨bl,1,none⟩ (.int .i64 u2)).setCell ⟨bs,0,none⟩ (.bool true)) mo c m∧Tn mo bl bs w (((W.setCell ⟨bl,0,none⟩ (.int .i64 u1)).setCell ⟨bl,1,none⟩ (.int .i64 u2)).setCell ⟨bs,0,none⟩ (.bool true)):=by
 have hm1:W.heap[bm]?=some (.cells #[aF mo] 49 (0,0)):=h.m;have hl1:W.heap[bl]?=some (.cells #[.int .i64 x.1,.int .i64 x.2] 29 (0,0)):=h.l;have hs1:W.heap[bs]?=some (.cells #[.bool is] 4 (0,0)):=h.s;have nml:bm≠bl:=fun e=>by rw [e,hl1]at hm1;cases hm1
 have nms:bm≠bs:=fun e=>by rw [e,hs1]at hm1;cases hm1
 have hsv:((W.setCell ⟨bl,0,none⟩ (.int .i64 u1)).setCell ⟨bl,1,none⟩ (.int .i64 u2)).heap[bs]?=some (.cells #[.bool is] 4 (0,0)):=(Below.heap_setCell _ ⟨bl,1,none⟩ _ bs hne).trans ((Below.heap_setCell _ ⟨bl,0,none⟩ _ bs hne).trans hs1);refine ⟨⟨?_,?_,?_⟩,?_,((ht.set (.inl rfl) 0 _).set (.inl rfl) 1 _).set (.inr rfl) 0 _⟩
 ·exact (Below.heap_setCell _ ⟨bs,0,none⟩ _ bm nms).trans ((Below.heap_setCell _ ⟨bl,1,none⟩ _ bm nml).trans ((Below.heap_setCell _ ⟨bl,0,none⟩ _ bm nml).trans hm1))
 ·exact (Below.heap_setCell _ ⟨bs,0,none⟩ _ bl (fun e=>hne e.symm)).trans (h.l.set (.int .i64 u1) (.int .i64 u2))
 ·exact heap_put (j:=0) hsv (.bool true)
 ·exact (((hm.other h.l (by decide) 0 _).other (h.l.set0 _) (by decide) 1 _).other hsv (by decide) 0 _)
theorem zD (mo:Option Nat)(c m:Int)(bm bl bs:Nat)(x:Int×Int)(is:Bool)(u:ai)(pa:Option Addr)(w:World)(hm:aW w mo c m)(h0:0≤c)(h1:c<4611686018427387904)(h:Sk mo w bm bl bs x is)(ht:gQ w pa (some u)) :
  Calls Tryz.prog 323 #[.pointer pa,.pointer (some ⟨bs,0,none⟩),.pointer (some ⟨bm,0,none⟩),.pointer (some ⟨bl,0,none⟩)] w fun e w' =>
   e=.returned (.bool (!is || dH u.x x))∧Sk mo w' bm bl bs (if (!is || dH u.x x)=true then u.x else x) true∧aW w' mo (c+if is=true then 1 else 0) m∧Tn mo bl bs w w':=by
 obtain ⟨⟨u1,u2⟩,ubs,uks⟩:=u;obtain ⟨x1,x2⟩:=x;have H:=hdz (af hm (af h0 (af h1 (af h ht))));clear hm h0 h1 h ht;go_enter Tryz.func323,Tryz.ntmps323
 go_wp2_with fail
 ((with_reducible refine (Go.Proofs.YtmeodbjlmjpnbaaGreat.kU pa (some ⟨(u1,u2),ubs,uks⟩) _ H.out.2.2.2.2).mono ?_);rintro e w2 ⟨rfl,hb2⟩);rw [show lG (some ⟨(u1,u2),ubs,uks⟩)=.tuple #[el (u1,u2),.bool true] from rfl];have hb3:=hb2.alloc hb2.size (.cells #[.int .i64 u1,.int .i64 u2] 29);have S3:=hdz (H.out.2.2.2.1.stay hb3);have M3:=hdz (H.out.1.stay hb3);have T3:=hdz (Tn.BP (b1:=bl) (b2:=bs) (Bt.aV (mo:=mo) hb3));have HCC:=hdz (af H.out.2.1 H.out.2.2.1);clear hb2 hb3 H;go_wp2_with fail
 ((with_reducible refine (xh (u1,u2) _).mono ?_);rintro e w4 ⟨rfl,hb4⟩);have hb5:=hb4.alloc hb4.size (.cells #[.int .i64 u1,.int .i64 u2] 29);have S5:=hdz (S3.out.stay hb5);have M5:=hdz (M3.out.stay hb5);have T5:=hdz (T3.out.trans (Tn.BP (Bt.aV (mo:=mo) hb5)));have B5:=hdz (aB.new w4 29 (.int .i64 u1) (.int .i64 u2));have HLT:=hdz (show bl<w4.heap.size∧bs<w4.heap.size from ⟨Nat.lt_of_lt_of_le S3.out.l.lt hb4.size,Nat.lt_of_lt_of_le (lt_of_heap S3.out.s) hb4.size⟩);have HNE:=hdz (show bs≠bl from fun e=>by have h1:(w2.alloc (.cells #[.int .i64 u1,.int .i64 u2] 29)).heap[bs]?=_:=S3.out.s;have h2:(w2.alloc (.cells #[.int .i64 u1,.int .i64 u2] 29)).heap[bl]?=_:=S3.out.l;rw [e,h2]at h1;cases h1)
 clear hb4 hb5 S3 M3 T3;have b0:=B5.out.c0;have b1:=B5.out.c1;have s0:=lU S5.out.s;have z0:=S5.out.l.z0;have z1:=S5.out.l.z1;have y0:=S5.out.l.c0;have y1:=S5.out.l.c1;have sz:=pq S5.out.s;have n1:¬bs=bl:=HNE.out;have n2:¬bl=bs:=fun e=>HNE.out e.symm;have n3:¬w4.heap.size=bl:=by have:=HLT.out;omega
 have n4:¬bl=w4.heap.size:=by have:=HLT.out;omega
 have m0:=lU S5.out.m
 cases is with
 | false =>
  go_wp2_with fail
  go_ret
  obtain ⟨k1,k2,k3⟩:=S5.out.took M5.out T5.out HNE.out u1 u2;exact ⟨rfl,k1,by simpa using k2,k3⟩
 | true =>
  go_wp2_with fail
  ((with_reducible refine (lM mo c m (u1,u2) (x1,x2) _ M5.out HCC.out.1 HCC.out.2).mono ?_);rintro e w6 ⟨rfl,Iy,hb6⟩);have S6:=hdz (S5.out.bt hb6 M5.out);have M6:=hdz Iy;have T6:=hdz (T5.out.trans (Tn.BP hb6));have B6:=hdz (B5.out.bt hb6 M5.out (by decide));clear Iy hb6 b0 b1 s0 z0 z1 y0 y1 sz m0 B5 S5 M5 T5;have b0:=B6.out.c0;have b1:=B6.out.c1;have z0:=S6.out.l.z0;have z1:=S6.out.l.z1;have y0:=S6.out.l.c0;have y1:=S6.out.l.c1;have s0:=lU S6.out.s;have sz:=pq S6.out.s
  cases hv:dH (u1,u2) (x1,x2) with
  | true =>
   go_wp2_with fail
   go_ret
   obtain ⟨k1,k2,k3⟩:=S6.out.took M6.out T6.out HNE.out u1 u2;exact ⟨rfl,k1,k2,k3⟩
  | false =>
   go_wp2_with fail
   go_ret
   exact ⟨rfl,S6.out,M6.out,T6.out⟩
end Go.Proofs.YtmeodbjlmjpnbaaGreat.Sk.Hp
namespace Go.Proofs.YtmeodbjlmjpnbaaGreat.Sk.Hp
open Go.Sort Go.RowKit
theorem fK (mo:Option Nat)(c m:Int)(t:Lh)(p:HP)(w:World)(hm:aW w mo c m)(h0:0≤c)(h1:c<1152921504606846976)(h:aA w t p) :
  Calls Tryz.prog 310 #[hp p,aF mo] w fun e w'=>e=.returned (.int .i64 (ak t.ts:Nat))∧aW w' mo (c+t.bT) m∧Bt mo w w':=by
 obtain ⟨ts⟩:=t;have hlen:=h.len;change ts.length<_ at hlen;have hb1:Below w.heap.size w (w.alloc (.cells #[.pointer p.q,.int .i64 p.n] 117)):=(Below.refl _ w).alloc (Nat.le_refl _) _;have HX:=hdz (aB.new w 117 (.pointer p.q) (.int .i64 p.n));have H:=hdz (af (h.stay hb1) (af (Bt.aV (mo:=mo) hb1) (af (hm.stay hb1) (af h0 (af h1 hlen)))));clear h hm hb1 h0 h1 hlen;go_enter Tryz.func310,Tryz.ntmps310
 go_wp2_with fail
 ((with_reducible refine (sS mo _).mono ?_);rintro e w2 ⟨bm,bl,bs,rfl,hS,hL,hb2⟩);have B2:=hdz (HX.out.stay hb2);have c0:=B2.out.c0;have c1:=B2.out.c1;have H2:=hdz (af (H.out.1.stay hb2) (af (H.out.2.1.trans (Bt.aV hb2)) (af (H.out.2.2.1.stay hb2) hS)));have HB:=hdz (show w.heap.size≤bl∧w.heap.size≤bs from ⟨Nat.le_trans (by simp) hL.2.1,Nat.le_trans (by simp) hL.2.2⟩);have HN0:=hdz H.out.2.2.2;clear hS hL hb2 HX H;go_wp2_with fail
 ((with_reducible refine (pQ H2.out.1 H2.out.2.2.1).mono ?_);rintro e w3 ⟨A,n,ca,rfl,hr,hab,hb3⟩);have X:=hdz (af hr (af (H2.out.2.1.trans (Bt.aV hb3)) (af (H2.out.2.2.1.stay hb3) (H2.out.2.2.2.stay hb3))));have hn:n=ts.length:=hr.len;have HN:=hdz hn;have HAB:=hdz (show ∀a,A=some a→a.block≠bl∧a.block≠bs from fun a ea=>by have h1:=hab a ea;have h2:=H2.out.2.2.2.l.lt;have h3:=lt_of_heap H2.out.2.2.2.s;omega);clear hr hb3 hn hab c0 c1 H2 B2;go_wp2_with fail
 go_loopg [5,15] n (fun k s iv wr => ∃(i pl:Nat) (x:Int×Int),iv=.int .i64 (i:Int)∧s=.int .i64 (pl:Int)∧i+k=n∧Sk mo wr bm bl bs x (decide (0<i))∧(pl=cK ts (i - 1))∧(0<i→x=bq ts pl)∧Bt mo w wr∧fD mo wr ts A n ca∧aW wr mo (c+((i - 1:Nat):Int)) m)
 case atStart=>exact ⟨0,0,(0,0),rfl,rfl,by omega,X.out.2.2.2,rfl,fun h=>absurd h (by omega),X.out.2.1,X.out.1,by simpa using X.out.2.2.1⟩
 case round =>
  obtain ⟨i,pl,⟨x1,x2⟩,rfl,rfl,hi,hsk,hpl,hx,hbt,htr,hm⟩:=hrel;by_cases hlt:i<n
  ·obtain ⟨bA,oA,pa,rfl,hcell,hta⟩:=htr.at hlt;have g1:decide ((i:Int)<(n:Int))=true:=by simp;omega
   have g2:(i:Int)<(n:Int):=by omega
   have g3:(0:Int)≤(i:Int):=by omega
   have hil:i<ts.length:=by have:=HN.out;omega
   have hroot:bq ts i=(ts[i]).x:=by unfold bq;rw [List.getElem?_eq_getElem hil]
   generalize ts[i]=u at *;have hw2:IntKind.i64.wrap ((i:Int)+1)=((i+1:Nat):Int):=by have:=HN.out;have:=HN0.out;rw [IntKind.wrap_i64];omega
   have hw3:wrap64 ((i:Int)+1)=((i+1:Nat):Int):=by have:=HN.out;have:=HN0.out;unfold wrap64;omega
   obtain ⟨r,hrr⟩:=aU ((!(decide (0<i)) || dH u.x (x1,x2)));have Y:=hdz (af hi (af hsk (af hpl (af hx (af hbt (af htr (af hm (af hta (af hroot hrr)))))))));clear hi hsk hpl hx hbt htr hm hta hil hroot hrr;go_wp2_with fail
   ((with_reducible refine (zD mo (c+((i - 1:Nat):Int)) m bm bl bs (x1,x2) (decide (0<i)) u pa _ Y.out.2.2.2.2.2.2.1 (by have:=HN0.out;omega) (by have:=HN0.out;have:=HN.out;omega) Y.out.2.1 Y.out.2.2.2.2.2.2.2.1).mono ?_);rintro e w5 ⟨rfl,hs5,Im,Ip⟩);rw [←Y.out.2.2.2.2.2.2.2.2.2]at hs5 ⊢
   have hstep:0<i→cK ts i=if r=true then i else pl:=fun h0=>by
    rw [kI ts h0,Y.out.2.2.2.2.2.2.2.2.1,←Y.out.2.2.1,←Y.out.2.2.2.1 h0,Y.out.2.2.2.2.2.2.2.2.2];simp [h0]
   have hzero:¬0<i→i=0∧r=true:=fun h0=>⟨by omega,by rw [Y.out.2.2.2.2.2.2.2.2.2];simp [h0]⟩
   have hmm:aW w5 mo (c+((i+1 - 1:Nat):Int)) m:=by
    have e:c+((i+1 - 1:Nat):Int)=c+((i - 1:Nat):Int)+(if decide (0<i)=true then 1 else 0):=by
     by_cases h0:0<i
     ·simp only [h0,decide_true,if_true];omega
     ·simp only [h0,decide_false];simp;omega
    rw [e];exact Im
   have hb5:=Ip.bt Y.out.2.2.2.2.1 HB.out.1 HB.out.2;have htr5:=Y.out.2.2.2.2.2.1.tn Ip Y.out.2.2.2.2.2.2.1 Y.out.2.1.l Y.out.2.1.s iN xw HAB.out;have Z:=hdz (af hs5 (af hstep (af hzero (af hmm (af hb5 htr5)))));clear hs5 hstep hzero hmm hb5 htr5 Im Ip hcell
   cases r with
   | true =>
    go_wp2_with fail
    go_roundg (n - 1 - i)
    case measure=>have:=Y.out.1;omega
    case rel =>
     refine ⟨i+1,i,u.x,rfl,rfl,by have:=Y.out.1;omega,by have:=Z.out.1;simpa using this,?_,fun _=>Y.out.2.2.2.2.2.2.2.2.1.symm,Z.out.2.2.2.2.1,Z.out.2.2.2.2.2,Z.out.2.2.2.1⟩;rw [show i+1 - 1=i from rfl];by_cases h0:0<i
     ·rw [Z.out.2.1 h0];rfl
     ·obtain ⟨h1, -⟩:=Z.out.2.2.1 h0;subst h1;rfl
   | false =>
    have hpos:0<i:=by
     by_cases h0:0<i
     ·exact h0
     ·have h1:=(Z.out.2.2.1 h0).2;cases h1
    go_wp2_with fail
    go_roundg (n - 1 - i)
    case measure=>have:=Y.out.1;omega
    case rel =>
     refine ⟨i+1,pl,(x1,x2),rfl,rfl,by have:=Y.out.1;omega,by have:=Z.out.1;simpa using this,?_,fun _=>Y.out.2.2.2.1 hpos,Z.out.2.2.2.2.1,Z.out.2.2.2.2.2,Z.out.2.2.2.1⟩;rw [show i+1 - 1=i from rfl,Z.out.2.1 hpos];rfl
  ·have hin:i=n:=by omega
   have g1:decide ((i:Int)<(n:Int))=false:=by simp;omega
   have g2:¬(i:Int)<(n:Int):=by omega
   have hfin:pl=ak ts:=by rw [hpl];unfold ak;rw [hin,HN.out]
   have hct:((i - 1:Nat):Int)=((Lh.mk ts).bT:Nat):=by show _=((ts.length - 1:Nat):Int);rw [hin,HN.out]
   have Y:=hdz (af hbt (show aW wr mo (c+(Lh.mk ts).bT) m from hct▸hm));clear hi hsk hpl hx hbt htr hm;go_wp2_with fail
   go_ret
   exact ⟨by first|rfl|rw [hfin],Y.out.2,Y.out.1⟩
end Go.Proofs.YtmeodbjlmjpnbaaGreat.Sk.Hp
namespace Go.Proofs.YtmeodbjlmjpnbaaGreat.Sk.Hp
open Go.Sort Go.RowKit
structure Fi (W:World)(a:Nat)(p:HP)(x:Int×Int):Prop where
 h:aB W a 117 (.pointer p.q) (.int .i64 p.n)
 e:aB W (a+1) 29 (.int .i64 x.1) (.int .i64 x.2)
 r:aB W (a+2) 117 (.pointer none) (.int .i64 0)
section
variable {W W':World}{a:Nat}{p:HP}{x:Int×Int}{mo:Option Nat}{c m:Int}
theorem Fi.new (w:World)(p:HP)(x:Int×Int):Fi (((w.alloc (.cells #[.pointer p.q,.int .i64 p.n] 117)).alloc (.cells #[.int .i64 x.1,.int .i64 x.2] 29)).alloc (.cells #[.pointer none,.int .i64 0] 117)) w.heap.size p x:=by
 refine ⟨((aB.new w 117 _ _).alloc _).alloc _,?_,?_⟩
 ·have:=(aB.new (w.alloc (.cells #[.pointer p.q,.int .i64 p.n] 117)) 29 (.int .i64 x.1) (.int .i64 x.2)).alloc (.cells #[.pointer none,.int .i64 0] 117);simpa only [World.size_alloc] using this
 ·have:=aB.new ((w.alloc (.cells #[.pointer p.q,.int .i64 p.n] 117)).alloc (.cells #[.int .i64 x.1,.int .i64 x.2] 29)) 117 (.pointer none) (.int .i64 0);simpa only [World.size_alloc] using this
theorem Fi.stay (h:Fi W a p x)(hb:Below W.heap.size W W'):Fi W' a p x:=⟨h.h.stay hb,h.e.stay hb,h.r.stay hb⟩
theorem Fi.bt (h:Fi W a p x)(hb:Bt mo W W')(hm:aW W mo c m):Fi W' a p x:=⟨h.h.bt hb hm (by decide),h.e.bt hb hm (by decide),h.r.bt hb hm (by decide)⟩
end
theorem zk {w:World}{f g:ai}{r:List ai}{p:HP}(h:aA w ⟨f::g::r⟩ p):Calls Tryz.prog 147 #[hp p,.int .i64 2] w fun e w' => ∃p':HP,e=.returned (.agg #[.pointer p'.q,.int .i64 p'.n])∧aA w' ⟨r⟩ p'∧Below w.heap.size w w':=jT h 2 (by decide)
theorem zN (mo:Option Nat)(c m:Int)(x1 x2:Int)(p:HP)(w:World)(hs:ah ([])<134217728)(hm:aW w mo c m)(h0:0≤c)(h1:c<576460752303423488)(h2:0≤m)(h3:m<576460752303423487)
  (hh:aA w ⟨[]⟩ p):Calls Tryz.prog 120 #[hp p,aF mo,el (x1,x2)] w (bU mo (c+(eX ([]):Nat)) (m+(eG ([]):Nat)) ⟨dQ ([]) (x1,x2)⟩ w):=by
 have HF:=hdz (Fi.new w p (x1,x2));have KK:=hdz ((dL.refl (N:=au) hm).stay (aY w (.cells #[.pointer p.q,.int .i64 p.n] 117) (.cells #[.int .i64 x1,.int .i64 x2] 29) (.cells #[.pointer none,.int .i64 0] 117)));have HH:=hdz (show aA _ ⟨[]⟩ p from hh.stay (aY w (.cells #[.pointer p.q,.int .i64 p.n] 117) (.cells #[.int .i64 x1,.int .i64 x2] 29) (.cells #[.pointer none,.int .i64 0] 117)));have HN:=hdz (af hs (af h0 (af h1 (af h2 h3))));have HO:=hdz (af (show fZ ([]) from hh.right) (jo (x1,x2) (show fZ ([]) from hh.right)));clear hh hs h0 h1 h2 h3 hm;go_enter Tryz.func120,Tryz.ntmps120
 go_wp2_with fail
 generalize ((w.alloc (.cells #[.pointer p.q,.int .i64 p.n] 117)).alloc (.cells #[.int .i64 x1,.int .i64 x2] 29)).alloc (.cells #[.pointer none,.int .i64 0] 117)=w1 at *;obtain ⟨a,ha⟩:=aU (w.heap.size);rw [←ha]at HF ⊢;have HA:=hdz ha;clear ha;have HE:=hdz (show eX []=0∧eG []=1∧dQ [] (x1,x2)=[bY (x1,x2)] from ⟨rfl,rfl,rfl⟩);((with_reducible refine (eB HH.out).mono ?_);rintro e w2 ⟨rfl,hb⟩);have F2:=hdz (HF.out.stay hb);have K2:=hdz (KK.out.stay hb);have L2:=hdz ((show aA _ ⟨[]⟩ p from HH.out.stay hb));clear hb;have f20:=F2.out.h.c0;have f21:=F2.out.h.c1;go_wp2_with fail
 ((with_reducible refine (eZ L2.out).mono ?_);rintro e w3 ⟨p3,rfl,ht3,hb⟩);have F3:=hdz (F2.out.stay hb);have K3:=hdz (K2.out.stay hb);have L3:=hdz (af (show aA _ ⟨[]⟩ p from L2.out.stay hb) (show aA _ ⟨[]⟩ p3 from ht3));clear ht3 hb f20 f21;go_wp2_with fail
 ((with_reducible refine (eB L3.out.2).mono ?_);rintro e w4 ⟨rfl,hb⟩);have F4:=hdz (F3.out.stay hb);have K4:=hdz (K3.out.stay hb);have L4:=hdz ((show aA _ ⟨[]⟩ p from L3.out.1.stay hb));clear hb;have f40:=F4.out.h.c0;have f41:=F4.out.h.c1;go_wp2_with fail
 have f2:=F4.out.e.c0;have f3:=F4.out.e.c1;have n1:¬a=a+1+1:=by omega
 have n2:¬a+1+1=a:=by omega
 have n3:¬a+1=a+1+1:=by omega
 have n4:¬a+1+1=a+1:=by omega
 go_region_held3 (fun w'=>w'.cell? ⟨a,0,none⟩=some (.pointer p.q)∧w'.cell? ⟨a,1,none⟩=some (.int .i64 p.n)∧w'.cell? ⟨a+1,0,none⟩=some (.int .i64 x1)∧w'.cell? ⟨a+1,1,none⟩=some (.int .i64 x2)) (go_keep)
  (first|(go_at_call 145;((with_reducible refine (gN L5.out.1 (show gQ _ p5 (some (bY (x1,x2))) from L5.out.2) (by rw [jI];have:=HN.out;(try simp only [ah]at *);omega) (HE.out.2.2▸HO.out.2)).mono ?_);rintro e w6 ⟨p6,rfl,Io,hb6⟩;have F6:=hdz (F5.out.stay hb6);have K6:=hdz (K5.out.stay hb6);have L6:=hdz Io;have kF60:=F6.out.h.c0;have kF61:=F6.out.h.c1;have kF62:=F6.out.e.c0;have kF63:=F6.out.e.c1;have r6:=F6.out.r.c0;have r7:=F6.out.r.c1;have z6:=F6.out.r.z0;have z7:=F6.out.r.z1;clear Io hb6))|(go_at_call 117;((with_reducible refine (j5 mo c m (x1,x2) _ K4.out.drew.mt (by have:=HN.out;omega) (by have:=HN.out;omega)).mono ?_);rintro e w5 ⟨p5,rfl,Ip,Im,hb5⟩;have F5:=hdz ((F4.out.stay ((Below.refl _ _).drew)).bt hb5 K4.out.drew.mt);have K5:=hdz (K4.out.drew.turn Im hb5 ax);have L5:=hdz (af ((L4.out.stay ((Below.refl _ _).drew)).bt hb5 K4.out.drew.mt) Ip);have kF50:=F5.out.h.c0;have kF51:=F5.out.h.c1;have kF52:=F5.out.e.c0;have kF53:=F5.out.e.c1;clear Ip Im hb5)))
 go_wp2_with fail
 have s0:=(F6.out.r.set (.pointer p6.q) (.int .i64 p6.n)).c0;have s1:=(F6.out.r.set (.pointer p6.q) (.int .i64 p6.n)).c1;have hk:=K6.out.eY F6.out.r aj (by decide) (by have:=HA.out;omega) (.pointer p6.q) (.int .i64 p6.n);have eN:=HE.out.1;have eM:=HE.out.2.1;have eI:=HE.out.2.2;exact bodyPost_ret (v:=hp p6) (by simp [results,Tryz.results120,go_sem,s0,s1]) rfl ⟨p6,rfl,by rw [eI];exact L6.out.set2 F6.out.r aj _ _,by rw [eN,eM];simpa using hk.mt,hk.bt⟩
theorem y7 (mo:Option Nat)(c m:Int)(f:ai)(x1 x2:Int)(p:HP)(w:World)(hs:ah ([f])<134217728)(hm:aW w mo c m)(h0:0≤c)(h1:c<576460752303423488)(h2:0≤m)(h3:m<576460752303423487)
  (hh:aA w ⟨[f]⟩ p):Calls Tryz.prog 120 #[hp p,aF mo,el (x1,x2)] w (bU mo (c+(eX ([f]):Nat)) (m+(eG ([f]):Nat)) ⟨dQ ([f]) (x1,x2)⟩ w):=by
 have HF:=hdz (Fi.new w p (x1,x2));have KK:=hdz ((dL.refl (N:=au) hm).stay (aY w (.cells #[.pointer p.q,.int .i64 p.n] 117) (.cells #[.int .i64 x1,.int .i64 x2] 29) (.cells #[.pointer none,.int .i64 0] 117)));have HH:=hdz (show aA _ ⟨[f]⟩ p from hh.stay (aY w (.cells #[.pointer p.q,.int .i64 p.n] 117) (.cells #[.int .i64 x1,.int .i64 x2] 29) (.cells #[.pointer none,.int .i64 0] 117)));have HN:=hdz (af hs (af h0 (af h1 (af h2 h3))));have HO:=hdz (af (show fZ ([f]) from hh.right) (jo (x1,x2) (show fZ ([f]) from hh.right)));clear hh hs h0 h1 h2 h3 hm;go_enter Tryz.func120,Tryz.ntmps120
 go_wp2_with fail
 generalize ((w.alloc (.cells #[.pointer p.q,.int .i64 p.n] 117)).alloc (.cells #[.int .i64 x1,.int .i64 x2] 29)).alloc (.cells #[.pointer none,.int .i64 0] 117)=w1 at *;obtain ⟨a,ha⟩:=aU (w.heap.size);rw [←ha]at HF ⊢;have HA:=hdz ha;clear ha;have HE:=hdz (show eX [f]=0∧eG [f]=1∧dQ [f] (x1,x2)=[bY (x1,x2),f] from ⟨rfl,rfl,rfl⟩);obtain ⟨fa,hfa,hc⟩:=bN HH.out;have HC:=hdz hc;have Hfa:=hdz hfa;clear hc hfa;((with_reducible refine HC.out.mono ?_);rintro e w2 ⟨rfl,hb⟩);have F2:=hdz (HF.out.stay hb);have K2:=hdz (KK.out.stay hb);have L2:=hdz (af (show aA _ ⟨[f]⟩ p from HH.out.stay hb) (Hfa.out.stay hb));clear hb HC Hfa;have f20:=F2.out.h.c0;have f21:=F2.out.h.c1;go_wp2_with fail
 ((with_reducible refine (eZ L2.out.1).mono ?_);rintro e w3 ⟨p3,rfl,ht3,hb⟩);have F3:=hdz (F2.out.stay hb);have K3:=hdz (K2.out.stay hb);have L3:=hdz (af (show aA _ ⟨[f]⟩ p from L2.out.1.stay hb) (show aA _ ⟨[]⟩ p3 from ht3));clear ht3 hb f20 f21;go_wp2_with fail
 ((with_reducible refine (eB L3.out.2).mono ?_);rintro e w4 ⟨rfl,hb⟩);have F4:=hdz (F3.out.stay hb);have K4:=hdz (K3.out.stay hb);have L4:=hdz ((show aA _ ⟨[f]⟩ p from L3.out.1.stay hb));clear hb;have f40:=F4.out.h.c0;have f41:=F4.out.h.c1;go_wp2_with fail
 have f2:=F4.out.e.c0;have f3:=F4.out.e.c1;have n1:¬a=a+1+1:=by omega
 have n2:¬a+1+1=a:=by omega
 have n3:¬a+1=a+1+1:=by omega
 have n4:¬a+1+1=a+1:=by omega
 go_region_held3 (fun w'=>w'.cell? ⟨a,0,none⟩=some (.pointer p.q)∧w'.cell? ⟨a,1,none⟩=some (.int .i64 p.n)∧w'.cell? ⟨a+1,0,none⟩=some (.int .i64 x1)∧w'.cell? ⟨a+1,1,none⟩=some (.int .i64 x2)) (go_keep)
  (first|(go_at_call 145;((with_reducible refine (gN L5.out.1 (show gQ _ p5 (some (bY (x1,x2))) from L5.out.2) (by rw [jI];have:=HN.out;(try simp only [ah]at *);omega) (HE.out.2.2▸HO.out.2)).mono ?_);rintro e w6 ⟨p6,rfl,Io,hb6⟩;have F6:=hdz (F5.out.stay hb6);have K6:=hdz (K5.out.stay hb6);have L6:=hdz Io;have kF60:=F6.out.h.c0;have kF61:=F6.out.h.c1;have kF62:=F6.out.e.c0;have kF63:=F6.out.e.c1;have r6:=F6.out.r.c0;have r7:=F6.out.r.c1;have z6:=F6.out.r.z0;have z7:=F6.out.r.z1;clear Io hb6))|(go_at_call 117;((with_reducible refine (j5 mo c m (x1,x2) _ K4.out.drew.mt (by have:=HN.out;omega) (by have:=HN.out;omega)).mono ?_);rintro e w5 ⟨p5,rfl,Ip,Im,hb5⟩;have F5:=hdz ((F4.out.stay ((Below.refl _ _).drew)).bt hb5 K4.out.drew.mt);have K5:=hdz (K4.out.drew.turn Im hb5 ax);have L5:=hdz (af ((L4.out.stay ((Below.refl _ _).drew)).bt hb5 K4.out.drew.mt) Ip);have kF50:=F5.out.h.c0;have kF51:=F5.out.h.c1;have kF52:=F5.out.e.c0;have kF53:=F5.out.e.c1;clear Ip Im hb5)))
 go_wp2_with fail
 have s0:=(F6.out.r.set (.pointer p6.q) (.int .i64 p6.n)).c0;have s1:=(F6.out.r.set (.pointer p6.q) (.int .i64 p6.n)).c1;have hk:=K6.out.eY F6.out.r aj (by decide) (by have:=HA.out;omega) (.pointer p6.q) (.int .i64 p6.n);have eN:=HE.out.1;have eM:=HE.out.2.1;have eI:=HE.out.2.2;exact bodyPost_ret (v:=hp p6) (by simp [results,Tryz.results120,go_sem,s0,s1]) rfl ⟨p6,rfl,by rw [eI];exact L6.out.set2 F6.out.r aj _ _,by rw [eN,eM];simpa using hk.mt,hk.bt⟩
theorem Bh (mo:Option Nat)(c m:Int)(f g:ai)(r:List ai)(hq:f.rank≠g.rank)(x1 x2:Int)(p:HP)(w:World)(hs:ah (f::g::r)<134217728)(hm:aW w mo c m)(h0:0≤c)(h1:c<576460752303423488)(h2:0≤m)(h3:m<576460752303423487)
  (hh:aA w ⟨f::g::r⟩ p):Calls Tryz.prog 120 #[hp p,aF mo,el (x1,x2)] w (bU mo (c+(eX (f::g::r):Nat)) (m+(eG (f::g::r):Nat)) ⟨dQ (f::g::r) (x1,x2)⟩ w):=by
 have HF:=hdz (Fi.new w p (x1,x2));have KK:=hdz ((dL.refl (N:=au) hm).stay (aY w (.cells #[.pointer p.q,.int .i64 p.n] 117) (.cells #[.int .i64 x1,.int .i64 x2] 29) (.cells #[.pointer none,.int .i64 0] 117)));have HH:=hdz (show aA _ ⟨f::g::r⟩ p from hh.stay (aY w (.cells #[.pointer p.q,.int .i64 p.n] 117) (.cells #[.int .i64 x1,.int .i64 x2] 29) (.cells #[.pointer none,.int .i64 0] 117)));have HN:=hdz (af hs (af h0 (af h1 (af h2 h3))));have HO:=hdz (af (show fZ (f::g::r) from hh.right) (jo (x1,x2) (show fZ (f::g::r) from hh.right)));clear hh hs h0 h1 h2 h3 hm;go_enter Tryz.func120,Tryz.ntmps120
 go_wp2_with fail
 generalize ((w.alloc (.cells #[.pointer p.q,.int .i64 p.n] 117)).alloc (.cells #[.int .i64 x1,.int .i64 x2] 29)).alloc (.cells #[.pointer none,.int .i64 0] 117)=w1 at *;obtain ⟨a,ha⟩:=aU (w.heap.size);rw [←ha]at HF ⊢;have HA:=hdz ha;clear ha;have HE:=hdz (show eX (f::g::r)=0∧eG (f::g::r)=1∧dQ (f::g::r) (x1,x2)=bY (x1,x2)::f::g::r from ⟨by show (if f.rank=g.rank then 2 else 0)=0;rw [if_neg hq],by show (if f.rank=g.rank then 2 else 1)=1;rw [if_neg hq],mM _ hq⟩);obtain ⟨fa,hfa,hc⟩:=bN HH.out;have HC:=hdz hc;have Hfa:=hdz hfa;clear hc hfa;((with_reducible refine HC.out.mono ?_);rintro e w2 ⟨rfl,hb⟩);have F2:=hdz (HF.out.stay hb);have K2:=hdz (KK.out.stay hb);have L2:=hdz (af (show aA _ ⟨f::g::r⟩ p from HH.out.stay hb) (Hfa.out.stay hb));clear hb HC Hfa;have f20:=F2.out.h.c0;have f21:=F2.out.h.c1;go_wp2_with fail
 ((with_reducible refine (eZ L2.out.1).mono ?_);rintro e w3 ⟨p3,rfl,ht3,hb⟩);have F3:=hdz (F2.out.stay hb);have K3:=hdz (K2.out.stay hb);have L3:=hdz (af (show aA _ ⟨f::g::r⟩ p from L2.out.1.stay hb) (af (L2.out.2.stay hb) (show aA _ ⟨g::r⟩ p3 from ht3)));clear ht3 hb f20 f21;go_wp2_with fail
 obtain ⟨ga,hga,hc⟩:=bN L3.out.2.2;have HC:=hdz hc;have Hga:=hdz hga;clear hc hga;((with_reducible refine HC.out.mono ?_);rintro e w4 ⟨rfl,hb⟩);have F4:=hdz (F3.out.stay hb);have K4:=hdz (K3.out.stay hb);have L4:=hdz (af (show aA _ ⟨f::g::r⟩ p from L3.out.1.stay hb) (af (L3.out.2.1.stay hb) (Hga.out.stay hb)));clear hb HC Hga;have f40:=F4.out.h.c0;have f41:=F4.out.h.c1;obtain ⟨rf,hrf⟩:=aU (f.rank);obtain ⟨rg,hrg⟩:=aU (g.rank);have HR:=hdz (af hrf hrg);rw [←hrf,←hrg]at hq;clear hrf hrg;go_wp2_with fail
 ((with_reducible refine (bC L4.out.2.1 rf HR.out.1).mono ?_);rintro e w5 ⟨rfl,hw⟩);subst hw;go_wp2_with fail
 ((with_reducible refine (bC L4.out.2.2 rg HR.out.2).mono ?_);rintro e w5 ⟨rfl,hw⟩);subst hw;have g1:((rf:Int) == (rg:Int))=false:=by simp;omega
 have g2:¬(rf:Int)=(rg:Int):=by omega
 clear hq;have L4b:=L4;clear L4;have L4:=hdz L4b.out.1;clear L4b;go_wp2_with fail
 have f2:=F4.out.e.c0;have f3:=F4.out.e.c1;have n1:¬a=a+1+1:=by omega
 have n2:¬a+1+1=a:=by omega
 have n3:¬a+1=a+1+1:=by omega
 have n4:¬a+1+1=a+1:=by omega
 go_region_held3 (fun w'=>w'.cell? ⟨a,0,none⟩=some (.pointer p.q)∧w'.cell? ⟨a,1,none⟩=some (.int .i64 p.n)∧w'.cell? ⟨a+1,0,none⟩=some (.int .i64 x1)∧w'.cell? ⟨a+1,1,none⟩=some (.int .i64 x2)) (go_keep)
  (first|(go_at_call 145;((with_reducible refine (gN L5.out.1 (show gQ _ p5 (some (bY (x1,x2))) from L5.out.2) (by rw [jI];have:=HN.out;(try simp only [ah]at *);omega) (HE.out.2.2▸HO.out.2)).mono ?_);rintro e w6 ⟨p6,rfl,Io,hb6⟩;have F6:=hdz (F5.out.stay hb6);have K6:=hdz (K5.out.stay hb6);have L6:=hdz Io;have kF60:=F6.out.h.c0;have kF61:=F6.out.h.c1;have kF62:=F6.out.e.c0;have kF63:=F6.out.e.c1;have r6:=F6.out.r.c0;have r7:=F6.out.r.c1;have z6:=F6.out.r.z0;have z7:=F6.out.r.z1;clear Io hb6))|(go_at_call 117;((with_reducible refine (j5 mo c m (x1,x2) _ K4.out.drew.mt (by have:=HN.out;omega) (by have:=HN.out;omega)).mono ?_);rintro e w5 ⟨p5,rfl,Ip,Im,hb5⟩;have F5:=hdz ((F4.out.stay ((Below.refl _ _).drew)).bt hb5 K4.out.drew.mt);have K5:=hdz (K4.out.drew.turn Im hb5 ax);have L5:=hdz (af ((L4.out.stay ((Below.refl _ _).drew)).bt hb5 K4.out.drew.mt) Ip);have kF50:=F5.out.h.c0;have kF51:=F5.out.h.c1;have kF52:=F5.out.e.c0;have kF53:=F5.out.e.c1;clear Ip Im hb5)))
 go_wp2_with fail
 have s0:=(F6.out.r.set (.pointer p6.q) (.int .i64 p6.n)).c0;have s1:=(F6.out.r.set (.pointer p6.q) (.int .i64 p6.n)).c1;have hk:=K6.out.eY F6.out.r aj (by decide) (by have:=HA.out;omega) (.pointer p6.q) (.int .i64 p6.n);have eN:=HE.out.1;have eM:=HE.out.2.1;have eI:=HE.out.2.2;exact bodyPost_ret (v:=hp p6) (by simp [results,Tryz.results120,go_sem,s0,s1]) rfl ⟨p6,rfl,by rw [eI];exact L6.out.set2 F6.out.r aj _ _,by rw [eN,eM];simpa using hk.mt,hk.bt⟩
theorem A9 (mo:Option Nat)(c m:Int)(f g:ai)(r:List ai)(hq:f.rank=g.rank)(x1 x2:Int)(p:HP)(w:World)(hs:ah (f::g::r)<134217728)(hm:aW w mo c m)(h0:0≤c)(h1:c<576460752303423488)(h2:0≤m)(h3:m<576460752303423487)
  (hh:aA w ⟨f::g::r⟩ p):Calls Tryz.prog 120 #[hp p,aF mo,el (x1,x2)] w (bU mo (c+(eX (f::g::r):Nat)) (m+(eG (f::g::r):Nat)) ⟨dQ (f::g::r) (x1,x2)⟩ w):=by
 have HF:=hdz (Fi.new w p (x1,x2));have KK:=hdz ((dL.refl (N:=au) hm).stay (aY w (.cells #[.pointer p.q,.int .i64 p.n] 117) (.cells #[.int .i64 x1,.int .i64 x2] 29) (.cells #[.pointer none,.int .i64 0] 117)));have HH:=hdz (show aA _ ⟨f::g::r⟩ p from hh.stay (aY w (.cells #[.pointer p.q,.int .i64 p.n] 117) (.cells #[.int .i64 x1,.int .i64 x2] 29) (.cells #[.pointer none,.int .i64 0] 117)));have HN:=hdz (af hs (af h0 (af h1 (af h2 h3))));have HO:=hdz (af (show fZ (f::g::r) from hh.right) (jo (x1,x2) (show fZ (f::g::r) from hh.right)));clear hh hs h0 h1 h2 h3 hm;go_enter Tryz.func120,Tryz.ntmps120
 go_wp2_with fail
 generalize ((w.alloc (.cells #[.pointer p.q,.int .i64 p.n] 117)).alloc (.cells #[.int .i64 x1,.int .i64 x2] 29)).alloc (.cells #[.pointer none,.int .i64 0] 117)=w1 at *;obtain ⟨a,ha⟩:=aU (w.heap.size);rw [←ha]at HF ⊢;have HA:=hdz ha;clear ha;have HE:=hdz (show eX (f::g::r)=2∧eG (f::g::r)=2∧dQ (f::g::r) (x1,x2)=tq (x1,x2) f g::r from ⟨by show (if f.rank=g.rank then 2 else 0)=2;rw [if_pos hq],by show (if f.rank=g.rank then 2 else 1)=2;rw [if_pos hq],mK _ hq⟩);obtain ⟨fa,hfa,hc⟩:=bN HH.out;have HC:=hdz hc;have Hfa:=hdz hfa;clear hc hfa;((with_reducible refine HC.out.mono ?_);rintro e w2 ⟨rfl,hb⟩);have F2:=hdz (HF.out.stay hb);have K2:=hdz (KK.out.stay hb);have L2:=hdz (af (show aA _ ⟨f::g::r⟩ p from HH.out.stay hb) (Hfa.out.stay hb));clear hb HC Hfa;have f20:=F2.out.h.c0;have f21:=F2.out.h.c1;go_wp2_with fail
 ((with_reducible refine (eZ L2.out.1).mono ?_);rintro e w3 ⟨p3,rfl,ht3,hb⟩);have F3:=hdz (F2.out.stay hb);have K3:=hdz (K2.out.stay hb);have L3:=hdz (af (show aA _ ⟨f::g::r⟩ p from L2.out.1.stay hb) (af (L2.out.2.stay hb) (show aA _ ⟨g::r⟩ p3 from ht3)));clear ht3 hb f20 f21;go_wp2_with fail
 obtain ⟨ga,hga,hc⟩:=bN L3.out.2.2;have HC:=hdz hc;have Hga:=hdz hga;clear hc hga;((with_reducible refine HC.out.mono ?_);rintro e w4 ⟨rfl,hb⟩);have F4:=hdz (F3.out.stay hb);have K4:=hdz (K3.out.stay hb);have L4:=hdz (af (show aA _ ⟨f::g::r⟩ p from L3.out.1.stay hb) (af (L3.out.2.1.stay hb) (Hga.out.stay hb)));clear hb HC Hga;have f40:=F4.out.h.c0;have f41:=F4.out.h.c1;obtain ⟨rf,hrf⟩:=aU (f.rank);obtain ⟨rg,hrg⟩:=aU (g.rank);have HR:=hdz (af hrf hrg);rw [←hrf,←hrg]at hq;clear hrf hrg;go_wp2_with fail
 ((with_reducible refine (bC L4.out.2.1 rf HR.out.1).mono ?_);rintro e w5 ⟨rfl,hw⟩);subst hw;go_wp2_with fail
 ((with_reducible refine (bC L4.out.2.2 rg HR.out.2).mono ?_);rintro e w5 ⟨rfl,hw⟩);subst hw;have g1:((rf:Int) == (rg:Int))=true:=by simp;omega
 have g2:(rf:Int)=(rg:Int):=by omega
 clear hq;go_wp2_with fail
 ((with_reducible refine (zk L4.out.1).mono ?_);rintro e w6 ⟨p8,rfl,Io,hb6⟩);have Iu:Below w5.heap.size w5 (w6.alloc (.cells #[.pointer p8.q,.int .i64 p8.n] 106)):=hb6.alloc hb6.size (.cells #[.pointer p8.q,.int .i64 p8.n] 106);have bV:=aB.new w6 106 (.pointer p8.q) (.int .i64 p8.n);have F7:=hdz (F4.out.stay Iu);have K7:=hdz (K4.out.stay Iu);have L7:=hdz (af (show aA (w6.alloc (.cells #[.pointer p8.q,.int .i64 p8.n] 106)) ⟨r⟩ p8 from aA.stay (show aA w6 ⟨r⟩ p8 from Io) (bG _)) (af (L4.out.2.1.stay Iu) (L4.out.2.2.stay Iu)));have HVL:=hdz (Nat.lt_of_lt_of_le F4.out.r.lt hb6.size);clear Io hb6 Iu f40 f41 F4 K4 L4;have V7:=hdz bV;clear bV;go_wp2_with fail
 generalize w6.alloc (.cells #[.pointer p8.q,.int .i64 p8.n] 106)=w7 at *;obtain ⟨v,hv⟩:=aU (w6.heap.size);rw [←hv]at V7 HVL ⊢;clear hv;have v0:=V7.out.c0;have v1:=V7.out.c1;have f2:=F7.out.e.c0;have f3:=F7.out.e.c1;have n1:¬v=a+1+1:=by have:=HVL.out;omega
 have n2:¬a+1+1=v:=by have:=HVL.out;omega
 have n3:¬a+1=a+1+1:=by have:=HVL.out;omega
 have n4:¬a+1+1=a+1:=by have:=HVL.out;omega
 go_region_held3 (fun w'=>w'.cell? ⟨v,0,none⟩=some (.pointer p8.q)∧w'.cell? ⟨v,1,none⟩=some (.int .i64 p8.n)∧w'.cell? ⟨a+1,0,none⟩=some (.int .i64 x1)∧w'.cell? ⟨a+1,1,none⟩=some (.int .i64 x2)) (go_keep)
  (first|(go_at_call 145;((with_reducible refine (gN L8.out.1 L8.out.2 (by rw [wO];have:=HN.out;(try simp only [ah]at *);omega) (HE.out.2.2▸HO.out.2)).mono ?_);rintro e w9 ⟨p6,rfl,Io,hb6⟩;have F9:=hdz (F8.out.stay hb6);have V9:=hdz (V8.out.stay hb6);have K9:=hdz (K8.out.stay hb6);have L9:=hdz Io;have kV90:=V9.out.c0;have kV91:=V9.out.c1;have kF92:=F9.out.e.c0;have kF93:=F9.out.e.c1;have r6:=F9.out.r.c0;have r7:=F9.out.r.c1;have z6:=F9.out.r.z0;have z7:=F9.out.r.z1;clear Io hb6))|(go_at_call 148;((with_reducible refine (wW mo c m (x1,x2) fa ga (some f) (some g) _ K7.out.drew.mt HN.out.2.1 (by have:=HN.out;omega) HN.out.2.2.2.1 (by have:=HN.out;omega) (L7.out.2.1.stay ((Below.refl _ _).drew)) (L7.out.2.2.stay ((Below.refl _ _).drew)) (by have:=HN.out;simp only [bF,ah]at *;omega) (by have:=HN.out;simp only [bF,ah]at *;omega)).mono ?_);rintro e w8 ⟨p5,rfl,Ip,Im,hb5⟩;have F8:=hdz ((F7.out.stay ((Below.refl _ _).drew)).bt hb5 K7.out.drew.mt);have V8:=hdz ((V7.out.stay ((Below.refl _ _).drew)).bt hb5 K7.out.drew.mt (by decide));have K8:=hdz (K7.out.drew.turn Im hb5 ax);have L8:=hdz (af ((L7.out.1.stay ((Below.refl _ _).drew)).bt hb5 K7.out.drew.mt) (show gQ _ p5 (some (tq (x1,x2) f g)) from Ip));have kV80:=V8.out.c0;have kV81:=V8.out.c1;have kF82:=F8.out.e.c0;have kF83:=F8.out.e.c1;clear Ip Im hb5)))
 go_wp2_with fail
 have s0:=(F9.out.r.set (.pointer p6.q) (.int .i64 p6.n)).c0;have s1:=(F9.out.r.set (.pointer p6.q) (.int .i64 p6.n)).c1;have hk:=K9.out.eY F9.out.r aj (by decide) (by have:=HA.out;omega) (.pointer p6.q) (.int .i64 p6.n);have eN:=HE.out.1;have eM:=HE.out.2.1;have eI:=HE.out.2.2;have hmt:=hk.mt;rw [show c+(bZ (some f) (some g):Nat)+(vE (some f) (some g):Nat)=c+((2:Nat):Int) from by simp only [bZ,vE];omega,show m+(bZ (some f) (some g):Nat)+1=m+((2:Nat):Int) from by simp only [bZ];omega]at hmt;exact bodyPost_ret (v:=hp p6) (by simp [results,Tryz.results120,go_sem,s0,s1]) rfl ⟨p6,rfl,by rw [eI];exact L9.out.set2 F9.out.r aj _ _,by rw [eN,eM];exact hmt,hk.bt⟩
theorem di (mo:Option Nat)(c m:Int)(h:Lh)(x:Int×Int)(p:HP)(w:World)(hs:h.size<134217728)(hm:aW w mo c m)(h0:0≤c)(h1:c<576460752303423488)(h2:0≤m)(h3:m<576460752303423487)
  (hh:aA w h p):Calls Tryz.prog 120 #[hp p,aF mo,el x] w (bU mo (c+h.iJ) (m+h.iF) (h.insert x) w):=by
 obtain ⟨l⟩:=h;obtain ⟨x1,x2⟩:=x;match l,hs,hh with
 | [],hs,hh=>exact zN mo c m x1 x2 p w hs hm h0 h1 h2 h3 hh
 | [f],hs,hh=>exact y7 mo c m f x1 x2 p w hs hm h0 h1 h2 h3 hh
 | f::g::r,hs,hh =>
  by_cases hq:f.rank=g.rank
  ·exact A9 mo c m f g r hq x1 x2 p w hs hm h0 h1 h2 h3 hh
  ·exact Bh mo c m f g r hq x1 x2 p w hs hm h0 h1 h2 h3 hh
end Go.Proofs.YtmeodbjlmjpnbaaGreat.Sk.Hp
namespace Go.Proofs.YtmeodbjlmjpnbaaGreat.Sk.Hp
open Go.Sort Go.RowKit
abbrev puts (h:Lh)(xs:List (Int×Int)):Lh:=xs.foldl Lh.insert h
theorem pJ:∀(xs:List (Int×Int)) (h:Lh),(puts h xs).size=h.size+xs.length
 | [],_=>rfl
 | x::r,h=>by
  show (puts (h.insert x) r).size=_;rw [pJ r (h.insert x),gZ,List.length_cons];omega
theorem vk (h:Lh)(xs:List (Int×Int))(k:Nat)(hk:k<xs.length):dG h (xs.take (k+1))=dG h (xs.take k)+(puts h (xs.take k)).iJ∧dD h (xs.take (k+1))=dD h (xs.take k)+(puts h (xs.take k)).iF:=by
 rw [List.take_succ_eq_append_getElem hk];exact ⟨iU _ _ _,iP _ _ _⟩
theorem vJ (h:Lh)(xs:List (Int×Int))(k:Nat)(hk:k<xs.length):puts h (xs.take (k+1))=(puts h (xs.take k)).insert xs[k]:=by
 rw [List.take_succ_eq_append_getElem hk,puts,List.foldl_append];rfl
theorem uq (mo:Option Nat)(c m:Int)(h:Lh)(p0:HP)(A:Option Addr)(xs:List (Int×Int))(cap:Nat)(w:World)(hm:aW w mo c m)(h0:0≤c)(h1:c<288230376151711744)(h2:0≤m)(h3:m<288230376151711744)(hr:Row w A xs)(hn:h.size+xs.length<134217728)
  (hne:0<xs.length → ∀b,mo=some b → ∀q,A=some q→q.block≠b) (hh:aA w h p0) :
  Calls Tryz.prog 93 #[hp p0,aF mo,.slice A xs.length cap] w (bU mo (c+dG h xs) (m+dD h xs) (puts h xs) w):=by
 have HF:=hdz (F2.new w p0);have KK:=hdz ((dL.refl (N:=au) hm).stay (aX w (.cells #[.pointer p0.q,.int .i64 p0.n] 117) (.cells #[.pointer none,.int .i64 0] 117)));have HL:=hdz (hh.stay (aX w (.cells #[.pointer p0.q,.int .i64 p0.n] 117) (.cells #[.pointer none,.int .i64 0] 117)));have HR:=hdz (af hr hne);have HN:=hdz (af h0 (af h1 (af h2 h3)));obtain ⟨n,hnn⟩:=aU (xs.length);rw [←hnn]at hn ⊢;have HX:=hdz (af hnn hn);clear hr hne h0 h1 h2 h3 hm hnn hn hh;go_enter Tryz.func93,Tryz.ntmps93
 go_wp2_with fail
 generalize (w.alloc (.cells #[.pointer p0.q,.int .i64 p0.n] 117)).alloc (.cells #[.pointer none,.int .i64 0] 117)=w1 at *;obtain ⟨a,ha⟩:=aU (w.heap.size);rw [←ha]at HF ⊢;have HA:=hdz ha;clear ha;go_loopg [11] n (fun k i wr => ∃(j:Nat) (p:HP),i=.int .i64 (j:Int)∧j+k=n∧aB wr a 117 (.pointer p.q) (.int .i64 p.n)∧aB wr (a+1) 117 (.pointer none) (.int .i64 0)∧aA wr (puts h (xs.take j)) p∧dL au mo w (c+dG h (xs.take j)) (m+dD h (xs.take j)) wr)
 case atStart=>exact ⟨0,p0,rfl,by omega,HF.out.h,HF.out.r,HL.out,by simpa [dG,dD] using KK.out⟩
 case round =>
  obtain ⟨j,p,rfl,hj,hra,hrb,ht,hk⟩:=hrel;by_cases hlt:j<n
  ·have hjx:j<xs.length:=by rw [←HX.out.1];exact hlt
   obtain ⟨b,o,rfl,hc⟩:=HR.out.1 (by omega);have hx:=qm hc j hjx;have hne:=fun bb (eb:mo=some bb)=>HR.out.2 (by omega) bb eb _ rfl;have x0:=hk.bt.cell hx.1 hne;have x1:=hk.bt.cell hx.2 hne;have hpl:=nH (xs.take j) h;have htl:(xs.take j).length=j:=by rw [List.length_take];omega
   rw [htl]at hpl;have hsz:(puts h (xs.take j)).size=h.size+j:=by rw [pJ,htl]
   have eP:=vk h xs j hjx;have eO:=vJ h xs j hjx;generalize xs[j]=x at *;obtain ⟨y1,y2⟩:=x;have q1:(j:Int)<(n:Int):=by omega
   have q2:(0:Int)≤(j:Int):=by omega
   have h1c:=hra.c0;have h1d:=hra.c1;have h2c:=(hra.alloc (.cells #[.int .i64 y1,.int .i64 y2] 29)).c0;have h2d:=(hra.alloc (.cells #[.int .i64 y1,.int .i64 y2] 29)).c1;have X:=hdz (af hra (af hrb (af ht (af hk (af eP (af eO (af hpl (af hsz hj))))))));clear hra hrb ht hk eP eO hpl htl hsz hj hc hx hne hjx;go_wp2_with fail
   clear h1c h2c h1d h2d x0 x1;((with_reducible refine (di mo _ _ (puts h (xs.take j)) (y1,y2) p _ (by rw [X.out.2.2.2.2.2.2.2.1];have:=HX.out;omega) (X.out.2.2.2.1.alloc _).mt (by have:=HN.out;omega) (by have:=HN.out;have:=X.out.2.2.2.2.2.2.1;have:=HX.out;omega) (by have:=HN.out;omega) (by have:=HN.out;have:=X.out.2.2.2.2.2.2.1;have:=HX.out;omega) (X.out.2.2.1.stay (bG _))).mono ?_);rintro e w2 ⟨p2,rfl,ht2,hm2,hb2⟩);obtain ⟨hra,hrb,ht,hk,eP,eO,hpl,hsz,hj⟩:=X.out;have hk2:=(hk.alloc (.cells #[.int .i64 y1,.int .i64 y2] 29)).turn hm2 hb2 ax;have ra2:=(hra.alloc (.cells #[.int .i64 y1,.int .i64 y2] 29)).bt hb2 (hk.alloc _).mt (by decide);have rb2:=(hrb.alloc (.cells #[.int .i64 y1,.int .i64 y2] 29)).bt hb2 (hk.alloc _).mt (by decide);have e1:c+((dG h (xs.take (j+1)):Nat):Int)=c+(dG h (xs.take j):Nat)+((puts h (xs.take j)).iJ:Nat):=by rw [eP.1];omega
   have e2:m+((dD h (xs.take (j+1)):Nat):Int)=m+(dD h (xs.take j):Nat)+((puts h (xs.take j)).iF:Nat):=by rw [eP.2];omega
   rw [←e1,←e2]at hk2;rw [←eO]at ht2;have z2:=ra2.z0;have z3:=ra2.z1;have r2:=ra2.c0;have r3:=ra2.c1;have Y:=hdz (af (ra2.set (.pointer p2.q) (.int .i64 p2.n)) (af (rb2.aside (g:=a) (by omega) (.pointer p2.q) (.int .i64 p2.n)) (af (ht2.set2 ra2 aj (.pointer p2.q) (.int .i64 p2.n)) (hk2.eY ra2 aj (by decide) (by rw [←HA.out];omega) (.pointer p2.q) (.int .i64 p2.n)))));clear hra hrb ht hk eP eO hpl hsz hk2 ra2 rb2 e1 e2 ht2 hm2 hb2 X;go_wp2_with fail
   go_roundg (n - 1 - j)
   case measure=>omega
   case rel=>exact ⟨j+1,p2,by have h5:=HX.out;congr 1;unfold wrap64;omega,by omega,Y.out.1,Y.out.2.1,Y.out.2.2.1,Y.out.2.2.2⟩
  ·have hjn:j=n:=by omega
   subst hjn;rw [HX.out.1,List.take_length]at ht hk;have h1c:=hra.c0;have h1d:=hra.c1;have r6:=hrb.c0;have r7:=hrb.c1;have z6:=hrb.z0;have z7:=hrb.z1;have s0:=(hrb.set (.pointer p.q) (.int .i64 p.n)).c0;have s1:=(hrb.set (.pointer p.q) (.int .i64 p.n)).c1;have hk2:=hk.eY hrb aj (by decide) (by rw [←HA.out];omega) (.pointer p.q) (.int .i64 p.n);have X:=hdz (af (ht.set2 hrb aj (.pointer p.q) (.int .i64 p.n)) hk2);clear hra hrb ht hk hk2 hlt hj;go_wp2_with fail
   exact bodyPost_ret (v:=hp p) (by simp [results,Tryz.results93,go_sem,s0,s1]) rfl ⟨p,rfl,X.out.1,X.out.2.mt,X.out.2.bt⟩
end Go.Proofs.YtmeodbjlmjpnbaaGreat.Sk.Hp
namespace Go.Proofs.YtmeodbjlmjpnbaaGreat.Sk.Hp
open Go.Sort Go.RowKit
theorem xV {w:World}:gQ w none none:=rfl
def fH (t:Lh):Value := .tuple #[el t.min.1,.bool t.min.2]
theorem jC {t:ai}{r:List ai}:∃u us,(t::r).drop (ak (t::r))=u::us∧u.x=bq (t::r) (ak (t::r))∧(aO (t::r) (ak (t::r))=u.ks.list.reverse∧dB (t::r) (ak (t::r))=u.bs)∧(t::r).drop (ak (t::r)+1)=us∧u∈t::r:=by
 have hl:=dz (l:=t::r) (by simp);have hg:(t::r)[ak (t::r)]?=some (t::r)[ak (t::r)]:=List.getElem?_eq_getElem hl;refine ⟨(t::r)[ak (t::r)],(t::r).drop (ak (t::r)+1),List.drop_eq_getElem_cons hl,?_,?_,rfl,List.getElem_mem hl⟩
 ·unfold bq;rw [hg]
 ·exact ⟨by unfold aO;rw [hg],by unfold dB;rw [hg]⟩
theorem gy (l:List ai):ah l.reverse=ah l:=by
 induction l with
 | nil=>rfl
 | cons t r ih=>rw [List.reverse_cons,iO,ih];simp [ah];omega
theorem gJ:∀ks:ay,ah ks.list=ks.size
 | .nil=>rfl
 | .cons x bs ks r=>by simp only [ay.list,ah,ay.size,gJ r,ai.size]
theorem oh {l:List ai}{t:ai}(ht:t∈l):t.size≤ah l:=rH ht
theorem pR {l:List ai}{i:Nat}(h:i<l.length):ah (aK l i)≤ah l:=by
 have h1:=(eH h).length_eq;rw [aG,List.length_append,aG]at h1;omega
theorem o6 {l:List ai}{i:Nat}(h:i<l.length):ah (aO l i)+ah (aK l i)+(dB l i).length<ah l:=by
 have hbs:dB l i=(l[i]).bs:=by unfold dB;rw [List.getElem?_eq_getElem h]
 have h1:=(eH h).length_eq;have hg:l[i]?=some l[i]:=List.getElem?_eq_getElem h;have hk:aO l i=(l[i]).ks.list.reverse:=by unfold aO;rw [hg]
 rw [aG,List.length_append,aG,ai.aD]at h1;rw [hk,hbs,gy,gJ];have h9:(l[i]).size=1+(l[i]).bs.length+(l[i]).ks.size:=rfl;omega
theorem gY {l:List ai}(h:fZ l)(i:Nat):fZ (aK l i):=⟨fun u hu=>h.hok u (dY hu),fun u hu=>h.sk u (dY hu),oU h.up⟩
theorem uE {u:ai}(h1:u.hok)(h2:u.sk):fZ u.ks.list.reverse:=⟨fun v hv=>ay.lK h1.2 v (by simpa using hv),fun v hv=>(ay.mH h2.2 v (by simpa using hv)).1,iy (ay.je h2.2)⟩
theorem uX:∀{l:List ai},rises l→dF l=l∧gT l=0
 | [],_=>⟨rfl,rfl⟩
 | [t],_=>⟨rfl,rfl⟩
 | t::u::r,h=>by
  have h1:=(List.pairwise_cons.1 h).1 u (List.mem_cons_self ..);exact ⟨by show dx (u::r) t=_;rw [dx,if_pos h1],by show bg (u::r) t=0;rw [bg,if_pos h1]⟩
theorem uU {l:List ai}{k:Nat}(h:rises (aO l k)):bI ⟨aO l k⟩ ⟨aK l k⟩=⟨cu l k⟩∧aQ ⟨aO l k⟩ ⟨aK l k⟩=dR l k:=by
 obtain ⟨h1,h2⟩:=uX h;refine ⟨?_,?_⟩
 ·show Lh.mk (aP (dF (aO l k)) (dF (aK l k)))=_;rw [h1];rfl
 ·show gT (aO l k)+gT (aK l k)+aI (dF (aO l k)) (dF (aK l k))=_;rw [h1,h2,Nat.zero_add];rfl
theorem uP (l:List ai)(k:Nat):ah (cu l k)=ah (aO l k)+ah (aK l k):=by unfold cu;rw [fe,lQ]
theorem qi:∀(xs:List (Int×Int)) (l:List ai),dG ⟨l⟩ xs=mX l xs∧dD ⟨l⟩ xs=nA l xs
 | [],_=>⟨rfl,rfl⟩
 | x::r,l=>by
  obtain ⟨h1,h2⟩:=qi r (dQ l x);exact ⟨by show eX l+dG ⟨dQ l x⟩ r=_;rw [h1];rfl,by show eG l+dD ⟨dQ l x⟩ r=_;rw [h2];rfl⟩
theorem xZ (t:ai)(r:List ai)(k:Nat)(hk:k=ak (t::r)):(Lh.mk (t::r)).pop=puts ⟨cu (t::r) k⟩ (dB (t::r) k):=by
 subst hk;have h:=mJ (dB (t::r) (ak (t::r))) ⟨cu (t::r) (ak (t::r))⟩;exact congrArg Lh.mk h.symm
theorem uK (t:ai)(r:List ai)(k:Nat)(hk:k=ak (t::r)):(Lh.mk (t::r)).jf=dR (t::r) k+dG ⟨cu (t::r) k⟩ (dB (t::r) k):=by subst hk;rw [(qi _ _).1];rfl
theorem vI (t:ai)(r:List ai)(k:Nat)(hk:k=ak (t::r)):(Lh.mk (t::r)).jl=dR (t::r) k+dD ⟨cu (t::r) k⟩ (dB (t::r) k):=by subst hk;rw [(qi _ _).2];rfl
theorem qO (mo:Option Nat)(c m:Int)(p:HP)(w:World)(hm:aW w mo c m)(h0:0≤c)(h1:c<1152921504606846976)(h:aA w .nil p):Calls Tryz.prog 305 #[hp p,aF mo] w fun e w'=>e=.returned (fH .nil)∧aW w' mo (c+Lh.nil.bT) m∧Bt mo w w':=by
 have hb1:Below w.heap.size w ((w.alloc (.cells #[.pointer p.q,.int .i64 p.n] 117)).alloc (.cells #[.int .i64 0,.int .i64 0] 29)):=((Below.refl _ w).alloc (Nat.le_refl _) _).alloc (by simp) _;have bH:=(aB.new w 117 (.pointer p.q) (.int .i64 p.n)).alloc (.cells #[.int .i64 0,.int .i64 0] 29);have bE:=aB.new (w.alloc (.cells #[.pointer p.q,.int .i64 p.n] 117)) 29 (.int .i64 0) (.int .i64 0);simp only [World.size_alloc]at bE;have HL:=hdz (show aA _ ⟨[]⟩ p from h.stay hb1);have KK:=hdz ((dL.refl (N:=au) hm).stay hb1);have HB:=hdz (af bH bE);have HN:=hdz (af h0 h1);obtain ⟨k,hk⟩:=aU (ak ([]));have HK:=hdz (show k=ak ([]:List ai)∧k<2147483648∧([]:List ai).drop k=[] from ⟨hk,by rw [hk];decide,by simp⟩);clear h hm hb1 bH bE h0 h1 hk;go_enter Tryz.func305,Tryz.ntmps305
 go_wp2_with fail
 generalize (w.alloc (.cells #[.pointer p.q,.int .i64 p.n] 117)).alloc (.cells #[.int .i64 0,.int .i64 0] 29)=w1 at *;obtain ⟨a,ha⟩:=aU (w.heap.size);rw [←ha]at HB ⊢;have HA:=hdz (Nat.le_of_eq ha.symm);clear ha;have f0:=HB.out.1.c0;have f1:=HB.out.1.c1;have hfd:=jq
 go_region_held3 (fun w'=>w'.cell? ⟨a,0,none⟩=some (.pointer p.q)∧w'.cell? ⟨a,1,none⟩=some (.int .i64 p.n)) (go_keep)
  (first|(go_at_call 141;((with_reducible refine (eB L3.out).mono ?_);rintro e w4 ⟨rfl,hb4⟩;have K4:=hdz (K3.out.stay hb4);have B4:=hdz (af (B3.out.1.stay hb4) (B3.out.2.stay hb4));have f40:=B4.out.1.c0;have f41:=B4.out.1.c1;clear hb4))|(go_at_call 147;((with_reducible refine (jT L2.out k HK.out.2.1).mono ?_);rintro e w3 ⟨p3,rfl,ht3,hb3⟩;have K3:=hdz (K2.out.stay hb3);have L3:=hdz (show aA w3 ⟨[]⟩ p3 from HK.out.2.2▸ht3);have B3:=hdz (af (B2.out.1.stay hb3) (B2.out.2.stay hb3));have f30:=B3.out.1.c0;have f31:=B3.out.1.c1;clear ht3 hb3))|(go_at_call 310;((with_reducible refine (fK mo c m ⟨[]⟩ p _ KK.out.drew.mt HN.out.1 HN.out.2 (HL.out.stay ((Below.refl _ _).drew))).mono ?_);rintro e w2 ⟨rfl,hm2,hb2⟩;rw [show ak (Lh.mk ([])).ts=k from HK.out.1.symm];have K2:=hdz (KK.out.drew.turn hm2 hb2 ax);have L2:=hdz ((HL.out.stay ((Below.refl _ _).drew)).bt hb2 KK.out.drew.mt);have B2:=hdz (af ((HB.out.1.stay ((Below.refl _ _).drew)).bt hb2 KK.out.drew.mt (by decide)) ((HB.out.2.stay ((Below.refl _ _).drew)).bt hb2 KK.out.drew.mt (by decide)));have f20:=B2.out.1.c0;have f21:=B2.out.1.c1;clear hm2 hb2)))
 go_wp2_with fail
 ((with_reducible refine (kU none none _ xV).mono ?_);rintro e w5 ⟨rfl,hb5⟩);rw [show lG none=.tuple #[el (0,0),.bool false] from rfl];have B5:=hdz (B4.out.2.stay hb5);have K5:=hdz (K4.out.stay hb5);have z0:=B5.out.z0;have z1:=B5.out.z1;have r0:=B5.out.c0;have r1:=B5.out.c1;have s0:=(B5.out.set (.int .i64 0) (.int .i64 0)).c0;have s1:=(B5.out.set (.int .i64 0) (.int .i64 0)).c1;clear hb5;go_wp2_with fail
 have hk:=K5.out.eY B5.out iN (by decide) (by have:=HA.out;omega) (.int .i64 0) (.int .i64 0);exact bodyPost_ret (v:=fH .nil) (by simp [results,Tryz.results305,go_sem,s0,s1,fH,Lh.min,Lh.nil,qY]) rfl ⟨rfl,hk.mt,hk.bt⟩
theorem lJ (mo:Option Nat)(c m:Int)(t:ai)(r:List ai)(p:HP)(w:World)(hm:aW w mo c m)(h0:0≤c)(h1:c<1152921504606846976)(h:aA w ⟨t::r⟩ p):Calls Tryz.prog 305 #[hp p,aF mo] w fun e w'=>e=.returned (fH ⟨t::r⟩)∧aW w' mo (c+(Lh.mk (t::r)).bT) m∧Bt mo w w':=by
 have hb1:Below w.heap.size w ((w.alloc (.cells #[.pointer p.q,.int .i64 p.n] 117)).alloc (.cells #[.int .i64 0,.int .i64 0] 29)):=((Below.refl _ w).alloc (Nat.le_refl _) _).alloc (by simp) _;have bH:=(aB.new w 117 (.pointer p.q) (.int .i64 p.n)).alloc (.cells #[.int .i64 0,.int .i64 0] 29);have bE:=aB.new (w.alloc (.cells #[.pointer p.q,.int .i64 p.n] 117)) 29 (.int .i64 0) (.int .i64 0);simp only [World.size_alloc]at bE;have HL:=hdz (show aA _ ⟨t::r⟩ p from h.stay hb1);have KK:=hdz ((dL.refl (N:=au) hm).stay hb1);have HB:=hdz (af bH bE);have HN:=hdz (af h0 h1);obtain ⟨k,hk⟩:∃k,k=ak (t::r):=⟨_,rfl⟩;obtain ⟨u,us,hu1,hu2, -, -, -⟩:=jC (t:=t) (r:=r);have hlen:=h.len;have hlt:=dz (l:=t::r) (by simp);change (t::r).length<_ at hlen;have HK:=hdz (show k=ak (t::r)∧k<2147483648∧(t::r).drop k=u::us∧fH ⟨t::r⟩=.tuple #[el u.x,.bool true] from ⟨hk,by omega,by rw [hk];exact hu1,by rw [hu2];rfl⟩);clear hu1 hu2 hlen hlt;clear h hm hb1 bH bE h0 h1 hk;go_enter Tryz.func305,Tryz.ntmps305
 go_wp2_with fail
 generalize (w.alloc (.cells #[.pointer p.q,.int .i64 p.n] 117)).alloc (.cells #[.int .i64 0,.int .i64 0] 29)=w1 at *;obtain ⟨a,ha⟩:=aU (w.heap.size);rw [←ha]at HB ⊢;have HA:=hdz (Nat.le_of_eq ha.symm);clear ha;have f0:=HB.out.1.c0;have f1:=HB.out.1.c1;have hfd:=jq
 go_region_held3 (fun w'=>w'.cell? ⟨a,0,none⟩=some (.pointer p.q)∧w'.cell? ⟨a,1,none⟩=some (.int .i64 p.n)) (go_keep)
  (first|(go_at_call 141;(obtain ⟨fa,hfa,hc⟩:=bN L3.out);((with_reducible refine hc.mono ?_);rintro e w4 ⟨rfl,hb4⟩;have K4:=hdz (K3.out.stay hb4);have T4:=hdz (hfa.stay hb4);have B4:=hdz (af (B3.out.1.stay hb4) (B3.out.2.stay hb4));have f40:=B4.out.1.c0;have f41:=B4.out.1.c1;clear hb4 hfa hc))|(go_at_call 147;((with_reducible refine (jT L2.out k HK.out.2.1).mono ?_);rintro e w3 ⟨p3,rfl,ht3,hb3⟩;have K3:=hdz (K2.out.stay hb3);have L3:=hdz (show aA w3 ⟨u::us⟩ p3 from HK.out.2.2.1▸ht3);have B3:=hdz (af (B2.out.1.stay hb3) (B2.out.2.stay hb3));have f30:=B3.out.1.c0;have f31:=B3.out.1.c1;clear ht3 hb3))|(go_at_call 310;((with_reducible refine (fK mo c m ⟨t::r⟩ p _ KK.out.drew.mt HN.out.1 HN.out.2 (HL.out.stay ((Below.refl _ _).drew))).mono ?_);rintro e w2 ⟨rfl,hm2,hb2⟩;rw [show ak (Lh.mk (t::r)).ts=k from HK.out.1.symm];have K2:=hdz (KK.out.drew.turn hm2 hb2 ax);have L2:=hdz ((HL.out.stay ((Below.refl _ _).drew)).bt hb2 KK.out.drew.mt);have B2:=hdz (af ((HB.out.1.stay ((Below.refl _ _).drew)).bt hb2 KK.out.drew.mt (by decide)) ((HB.out.2.stay ((Below.refl _ _).drew)).bt hb2 KK.out.drew.mt (by decide)));have f20:=B2.out.1.c0;have f21:=B2.out.1.c1;clear hm2 hb2)))
 go_wp2_with fail
 ((with_reducible refine (kU fa (some u) _ T4.out).mono ?_);rintro e w5 ⟨rfl,hb5⟩);obtain ⟨⟨y1,y2⟩,ubs,uks⟩:=u;rw [show lG (some ⟨(y1,y2),ubs,uks⟩)=.tuple #[el (y1,y2),.bool true] from rfl];have B5:=hdz (B4.out.2.stay hb5);have K5:=hdz (K4.out.stay hb5);have z0:=B5.out.z0;have z1:=B5.out.z1;have r0:=B5.out.c0;have r1:=B5.out.c1;have s0:=(B5.out.set (.int .i64 y1) (.int .i64 y2)).c0;have s1:=(B5.out.set (.int .i64 y1) (.int .i64 y2)).c1;clear hb5;go_wp2_with fail
 have hk:=K5.out.eY B5.out iN (by decide) (by have:=HA.out;omega) (.int .i64 y1) (.int .i64 y2);exact bodyPost_ret (v := .tuple #[el (y1,y2),.bool true]) (by simp [results,Tryz.results305,go_sem,s0,s1]) rfl ⟨by rw [HK.out.2.2.2],hk.mt,hk.bt⟩
theorem iX (mo:Option Nat)(c m:Int)(t:Lh)(p:HP)(w:World)(hm:aW w mo c m)(h0:0≤c)(h1:c<1152921504606846976)(h:aA w t p):Calls Tryz.prog 305 #[hp p,aF mo] w fun e w'=>e=.returned (fH t)∧aW w' mo (c+t.bT) m∧Bt mo w w':=by
 obtain ⟨ts⟩:=t
 cases ts with
 | nil=>exact qO mo c m p w hm h0 h1 h
 | cons t r=>exact lJ mo c m t r p w hm h0 h1 h
def gP (mo:Option Nat)(c m:Int)(t:Lh)(is:Bool)(w:World)(e:Ending)(w':World):Prop:=∃p:HP,e=.returned (.tuple #[.agg #[.pointer p.q,.int .i64 p.n],.bool is])∧aA w' t p∧aW w' mo c m∧Bt mo w w'
theorem kV (mo:Option Nat)(c m:Int)(p:HP)(w:World)(hm:aW w mo c m)(h0:0≤c)(h1:c<144115188075855872)(h2:0≤m)(h3:m<144115188075855872)(h:aA w .nil p):Calls Tryz.prog 306 #[hp p,aF mo] w (gP mo c m .nil false w):=by
 have hb1:Below w.heap.size w ((w.alloc (.cells #[.pointer p.q,.int .i64 p.n] 117)).alloc (.cells #[.pointer none,.int .i64 0] 117)):=((Below.refl _ w).alloc (Nat.le_refl _) _).alloc (by simp) _;have bH:=(aB.new w 117 (.pointer p.q) (.int .i64 p.n)).alloc (.cells #[.pointer none,.int .i64 0] 117);have bE:=aB.new (w.alloc (.cells #[.pointer p.q,.int .i64 p.n] 117)) 117 (.pointer none) (.int .i64 0);simp only [World.size_alloc]at bE;have HL:=hdz (show aA _ ⟨[]⟩ p from h.stay hb1);have KK:=hdz ((dL.refl (N:=au) hm).stay hb1);have HB:=hdz (af bH bE);have HN:=hdz (af h0 (af h1 (af h2 h3)));obtain ⟨k,hk⟩:=aU (ak ([]));have HK:=hdz (show k=ak ([]:List ai)∧k<2147483648∧([]:List ai).drop k=[] from ⟨hk,by rw [hk];decide,by simp⟩);clear h hm hb1 bH bE h0 h1 h2 h3 hk;go_enter Tryz.func306,Tryz.ntmps306
 go_wp2_with fail
 generalize (w.alloc (.cells #[.pointer p.q,.int .i64 p.n] 117)).alloc (.cells #[.pointer none,.int .i64 0] 117)=w1 at *;obtain ⟨a,ha⟩:=aU (w.heap.size);rw [←ha]at HB ⊢;have HA:=hdz (Nat.le_of_eq ha.symm);clear ha;((with_reducible refine (fK mo c m ⟨[]⟩ p _ KK.out.mt HN.out.1 (by have:=HN.out;omega) HL.out).mono ?_);rintro e w2 ⟨rfl,hm2,hb2⟩);rw [show ak (Lh.mk ([])).ts=k from HK.out.1.symm];have K2:=hdz (KK.out.turn hm2 hb2 ax);have L2:=hdz (HL.out.bt hb2 KK.out.mt);have B2:=hdz (af (HB.out.1.bt hb2 KK.out.mt (by decide)) (HB.out.2.bt hb2 KK.out.mt (by decide)));have f0:=B2.out.1.c0;have f1:=B2.out.1.c1;clear hm2 hb2 HL KK HB;go_wp2_with fail
 ((with_reducible refine (jT L2.out k HK.out.2.1).mono ?_);rintro e w3 ⟨p3,rfl,ht3,hb3⟩);have hb4:Below w2.heap.size w2 (w3.alloc (.cells #[.pointer p3.q,.int .i64 p3.n] 106)):=hb3.alloc hb3.size (.cells #[.pointer p3.q,.int .i64 p3.n] 106);have bV:=aB.new w3 106 (.pointer p3.q) (.int .i64 p3.n);have L3:=hdz (show aA (w3.alloc (.cells #[.pointer p3.q,.int .i64 p3.n] 106)) ⟨[]⟩ p3 from aA.stay (show aA w3 ⟨[]⟩ p3 from HK.out.2.2▸ht3) (bG _));have L2b:=hdz (L2.out.stay hb4);have K3:=hdz (K2.out.stay hb4);have HVL:=hdz (Nat.lt_of_lt_of_le B2.out.2.lt hb3.size);have B3:=hdz (af (B2.out.1.stay hb4) (af (B2.out.2.stay hb4) bV));clear ht3 hb3 hb4 bV f0 f1 K2 L2 B2;go_wp2_with fail
 generalize w3.alloc (.cells #[.pointer p3.q,.int .i64 p3.n] 106)=w4 at *;obtain ⟨v,hv⟩:=aU (w3.heap.size);rw [←hv]at B3 HVL ⊢;clear hv;((with_reducible refine (eB L3.out).mono ?_);rintro e w5 ⟨rfl,hb5⟩);have K5:=hdz (K3.out.stay hb5);have B5:=hdz (B3.out.2.1.stay hb5);have z0:=B5.out.z0;have z1:=B5.out.z1;have r0:=B5.out.c0;have r1:=B5.out.c1;have s0:=(B5.out.set (.pointer none) (.int .i64 0)).c0;have s1:=(B5.out.set (.pointer none) (.int .i64 0)).c1;clear hb5;go_wp2_with fail
 have hk:=K5.out.eY B5.out aj (by decide) (by have:=HA.out;omega) (.pointer none) (.int .i64 0);exact bodyPost_ret (v := .tuple #[hp ⟨none,0⟩,.bool false]) (by simp [results,Tryz.results306,go_sem,s0,s1]) rfl ⟨⟨none,0⟩,rfl,aA.nil _,by simpa [Lh.bT,Lh.nil] using hk.mt,hk.bt⟩
theorem kX (mo:Option Nat)(c m:Int)(t:ai)(r:List ai)(p:HP)(w:World)(hs27:ah (t::r)<134217728)(hm:aW w mo c m)(h0:0≤c)(h1:c<144115188075855872)(h2:0≤m)(h3:m<144115188075855872)(h:aA w ⟨t::r⟩ p):Calls Tryz.prog 306 #[hp p,aF mo] w (gP mo (c+((Lh.mk (t::r)).jf+(Lh.mk (t::r)).bT:Nat)) (m+(Lh.mk (t::r)).jl) (Lh.mk (t::r)).pop true w):=by
 have hb1:Below w.heap.size w ((w.alloc (.cells #[.pointer p.q,.int .i64 p.n] 117)).alloc (.cells #[.pointer none,.int .i64 0] 117)):=((Below.refl _ w).alloc (Nat.le_refl _) _).alloc (by simp) _;have bH:=(aB.new w 117 (.pointer p.q) (.int .i64 p.n)).alloc (.cells #[.pointer none,.int .i64 0] 117);have bE:=aB.new (w.alloc (.cells #[.pointer p.q,.int .i64 p.n] 117)) 117 (.pointer none) (.int .i64 0);simp only [World.size_alloc]at bE;have HL:=hdz (show aA _ ⟨t::r⟩ p from h.stay hb1);have KK:=hdz ((dL.refl (N:=au) hm).stay hb1);have HB:=hdz (af bH bE);have HN:=hdz (af h0 (af h1 (af h2 h3)));obtain ⟨k,hk⟩:∃k,k=ak (t::r):=⟨_,rfl⟩;obtain ⟨u,us,hu1,hu2,hu3,hu4,hu5⟩:=jC (t:=t) (r:=r);have hlen:=h.len;have hsm:=h.small;have hok:fZ (t::r):=h.right;have hlt:=dz (l:=t::r) (by simp);have htl:(Lh.mk (t::r)).bT≤(Lh.mk (t::r)).size:=kz _;have hpl:=lN (Lh.mk (t::r));change (t::r).length<_ at hlen;change ah (t::r)<_ at hsm;have hus:=oh hu5;have hrs:=pR hlt;have HK:=hdz (show k=ak (t::r)∧k<2147483648∧(t::r).drop k=u::us from ⟨hk,by omega,by rw [hk];exact hu1⟩);have HU:=hdz (show (aO (t::r) k=u.ks.list.reverse∧dB (t::r) k=u.bs)∧(t::r).take k++us=aK (t::r) k∧k≤(t::r).length∧u.size≤ah (t::r)∧ah (aK (t::r) k)≤ah (t::r)∧(t::r).length<268435456∧ah (t::r)<268435456 from ⟨hk▸hu3,by unfold aK;rw [hk,hu4],by omega,hus,hk▸hrs,hlen,hsm⟩);have HPS:=hdz (show ah (aO (t::r) k)+ah (aK (t::r) k)+u.bs.length<134217728 from by have h8:=o6 hlt;rw [←hk]at h8;rw [←hk]at hu3;rw [hu3.2]at h8;omega);have HO:=hdz (af hok (af (hok.hok u hu5) (hok.sk u hu5)));have HPO:=hdz (show (Lh.mk (t::r)).pop=puts ⟨cu (t::r) k⟩ u.bs∧(Lh.mk (t::r)).jf=dR (t::r) k+dG ⟨cu (t::r) k⟩ u.bs∧(Lh.mk (t::r)).jl=dR (t::r) k+dD ⟨cu (t::r) k⟩ u.bs∧(Lh.mk (t::r)).bT<268435456∧(Lh.mk (t::r)).jf<536870912∧(Lh.mk (t::r)).jl<536870912 from ⟨by rw [←hu3.2,←hk];exact xZ t r k hk,by rw [←hu3.2,←hk];exact uK t r k hk,by rw [←hu3.2,←hk];exact vI t r k hk,Nat.lt_of_le_of_lt htl hsm,by have h8:(Lh.mk (t::r)).size=ah (t::r):=rfl;omega,by have h8:(Lh.mk (t::r)).size=ah (t::r):=rfl;omega⟩);clear hu1 hu2 hu3 hu4 hu5 hlen hlt hsm hok htl hpl hus hrs;clear h hm hb1 bH bE h0 h1 h2 h3 hk;go_enter Tryz.func306,Tryz.ntmps306
 go_wp2_with fail
 generalize (w.alloc (.cells #[.pointer p.q,.int .i64 p.n] 117)).alloc (.cells #[.pointer none,.int .i64 0] 117)=w1 at *;obtain ⟨a,ha⟩:=aU (w.heap.size);rw [←ha]at HB ⊢;have HA:=hdz (Nat.le_of_eq ha.symm);clear ha;((with_reducible refine (fK mo c m ⟨t::r⟩ p _ KK.out.mt HN.out.1 (by have:=HN.out;omega) HL.out).mono ?_);rintro e w2 ⟨rfl,hm2,hb2⟩);rw [show ak (Lh.mk (t::r)).ts=k from HK.out.1.symm];have K2:=hdz (KK.out.turn hm2 hb2 ax);have L2:=hdz (HL.out.bt hb2 KK.out.mt);have B2:=hdz (af (HB.out.1.bt hb2 KK.out.mt (by decide)) (HB.out.2.bt hb2 KK.out.mt (by decide)));have f0:=B2.out.1.c0;have f1:=B2.out.1.c1;clear hm2 hb2 HL KK HB;go_wp2_with fail
 ((with_reducible refine (jT L2.out k HK.out.2.1).mono ?_);rintro e w3 ⟨p3,rfl,ht3,hb3⟩);have hb4:Below w2.heap.size w2 (w3.alloc (.cells #[.pointer p3.q,.int .i64 p3.n] 106)):=hb3.alloc hb3.size (.cells #[.pointer p3.q,.int .i64 p3.n] 106);have bV:=aB.new w3 106 (.pointer p3.q) (.int .i64 p3.n);have L3:=hdz (show aA (w3.alloc (.cells #[.pointer p3.q,.int .i64 p3.n] 106)) ⟨u::us⟩ p3 from aA.stay (show aA w3 ⟨u::us⟩ p3 from HK.out.2.2▸ht3) (bG _));have L2b:=hdz (L2.out.stay hb4);have K3:=hdz (K2.out.stay hb4);have HVL:=hdz (Nat.lt_of_lt_of_le B2.out.2.lt hb3.size);have B3:=hdz (af (B2.out.1.stay hb4) (af (B2.out.2.stay hb4) bV));clear ht3 hb3 hb4 bV f0 f1 K2 L2 B2;go_wp2_with fail
 generalize w3.alloc (.cells #[.pointer p3.q,.int .i64 p3.n] 106)=w4 at *;obtain ⟨v,hv⟩:=aU (w3.heap.size);rw [←hv]at B3 HVL ⊢;clear hv;obtain ⟨fa,hfa,hc⟩:=bN L3.out;have HC:=hdz hc;have TF:=hdz hfa;clear hc hfa;((with_reducible refine HC.out.mono ?_);rintro e w5 ⟨rfl,hb5⟩);have K5:=hdz (K3.out.stay hb5);have B5:=hdz (af (B3.out.1.stay hb5) (af (B3.out.2.1.stay hb5) (B3.out.2.2.stay hb5)));have L5:=hdz (af (show aA w5 ⟨t::r⟩ p from L2b.out.stay hb5) (af (L3.out.stay hb5) (TF.out.stay hb5)));clear hb5 HC TF K3 B3 L3 L2b;go_wp2_with fail
 refine j6 (R:=fun x x' w' => ∃(u27 u28 u29 u30 u31 u32 u33 u34 u35:Value) (g:Nat) (p9:HP),x'=((((((((((x.put (some 27) u27).put (some 28) u28).put (some 29) u29).put (some 30) u30).put (some 31) u31).put (some 32) u32).put (some 33) u33).put (some 34) u34).put (some 35) u35).put (some 10) (.pointer (some ⟨g,0,none⟩)))∧Below w5.heap.size w5 w'∧w5.heap.size≤g∧aB w' g 106 (.pointer p9.q) (.int .i64 p9.n)∧aA w' ⟨aK (t::r) k⟩ p9) ?_ ?_
 ·have HS:=hdz (fun (w':World) (hz:Below w5.heap.size w5 w')=>(show w'.cell? ⟨a,0,none⟩=some (.pointer p.q)∧w'.cell? ⟨a,1,none⟩=some (.int .i64 p.n)∧w'.cell? ⟨v,0,none⟩=some (.pointer p3.q)∧w'.cell? ⟨v,1,none⟩=some (.int .i64 p3.n) from ⟨(B5.out.1.stay hz).c0,(B5.out.1.stay hz).c1,(B5.out.2.2.stay hz).c0,(B5.out.2.2.stay hz).c1⟩));have hB:=(Below.refl w5.heap.size w5).drew;have IE:=L5.out.1.stay ((Below.refl _ _).drew);have Iq:=L5.out.2.1.stay ((Below.refl _ _).drew);have hSZ:=hB.size;refine wp_region_noPanic ?_;refine wp_region_held_drew (S:=fun w'=>w'.cell? ⟨a,0,none⟩=some (.pointer p.q)∧w'.cell? ⟨a,1,none⟩=some (.int .i64 p.n)∧w'.cell? ⟨v,0,none⟩=some (.pointer p3.q)∧w'.cell? ⟨v,1,none⟩=some (.int .i64 p3.n)) (by kernel_rfl) (HS.out _ hB) (fun hH=>?_);generalize hwd:w5.drew=wd at *;clear hwd;refine tk 0 hH ?_;try simp only [aZ]
  refine tk 1 hH ?_;try simp only [aZ]
  refine tk 3 hH ?_;try simp only [aZ]
  refine tk 6 hH ?_;try simp only [aZ]
  refine uw 2 9 (fun K hK=>?_) (fun K hK=>?_)
  ·go_simp;go_at_call 223
   have hmt:aW wd (none:Option Nat) 0 0:=trivial;(with_reducible refine (pQ IE hmt).mono ?_);rintro e w6 ⟨A,n6,c6,rfl,hr, -,hb⟩;replace Iq:=Iq.stay hb;replace hB:=hB.trans (hb.mono hSZ);replace hSZ:=Nat.le_trans hSZ hb.size;clear hb IE;have c1:k≤n6:=by have:=hr.len;have:=HU.out;omega
   have c2:k≤c6:=Nat.le_trans c1 hr.cap;have c3:(0:Int)≤(k:Int):=by omega
   have c4:(k:Int)≤(c6:Int):=by omega
   have c5:(k:Int)≤(n6:Int):=by omega
   refine hK.out _ _ ?_ (fun hH2=>?_)
   ·exact HS.out _ hB
   clear hK K hH;have hH:=hH2;clear hH2;try simp only [aZ]
   refine tk 4 hH ?_;try simp only [aZ]
   refine uw 5 9 (fun K hK=>?_) (fun K hK=>?_)
   ·go_simp;go_at_call 312
    obtain ⟨ps,hr1,hr2⟩:=hr.take k;(with_reducible refine (xu hr1 hr2 (by rw [List.length_take];have:=HU.out;omega) (Nat.lt_of_le_of_lt (cO _ _) HU.out.2.2.2.2.2.2) (jw HO.out.1 (List.take_sublist k _))).mono ?_);rintro e w7 ⟨p7,rfl,Ir,hb⟩;replace Iq:=Iq.stay hb;replace hB:=hB.trans (hb.mono hSZ);replace hSZ:=Nat.le_trans hSZ hb.size;clear hb hr hr1 hr2;refine hK.out _ _ ?_ (fun hH2=>?_)
    ·exact HS.out _ hB
    clear hK K hH;have hH:=hH2;clear hH2;try simp only [aZ]
    refine uw 7 9 (fun K hK=>?_) (fun K hK=>?_)
    ·go_simp;go_at_call 144
     (with_reducible refine (eZ Iq).mono ?_);rintro e w8 ⟨p8,rfl,Iw,hb⟩;replace Ir:=Ir.stay hb;replace Iw:aA w8 ⟨us⟩ p8:=Iw;replace hB:=hB.trans (hb.mono hSZ);replace hSZ:=Nat.le_trans hSZ hb.size;clear hb Iq;refine hK.out _ _ ?_ (fun hH2=>?_)
     ·exact HS.out _ hB
     clear hK K hH;have hH:=hH2;clear hH2;try simp only [aZ]
     refine uw 8 9 (fun K hK=>?_) (fun K hK=>?_)
     focus
      go_simp;go_at_call 313
      (with_reducible refine (jB Ir Iw (by rw [HU.out.2.1];have:=HU.out;omega) (by rw [HU.out.2.1];exact gY HO.out.1 k)).mono ?_);rintro e w9 ⟨p9,rfl,IA,hb⟩;rw [HU.out.2.1]at IA;replace hB:=hB.trans (hb.mono hSZ);replace hSZ:=Nat.le_trans hSZ hb.size;clear hb Ir Iw;refine hK.out _ _ ?_ (fun hH2=>?_)
      ·exact HS.out _ hB
      clear hK K hH;have hH:=hH2;clear hH2;try simp only [aZ]
      refine eD 9 (fun K hK=>?_);go_simp;refine hK.out _ _ ?_ (fun hH2=>?_)
      ·exact HS.out _ (hB.alloc hSZ _)
      clear hK K hH;have hH:=hH2;clear hH2;have hv:=aB.new w9 106 (.pointer none) (.int .i64 0);have hV:w5.heap.size≤w9.heap.size:=hSZ;replace IA:=IA.stay (bG (.cells #[.pointer none,.int .i64 0] 106));replace hB:=hB.alloc hSZ (.cells #[.pointer none,.int .i64 0] 106);replace hSZ:=Nat.le_trans hSZ (show w9.heap.size≤(w9.alloc (.cells #[.pointer none,.int .i64 0] 106)).heap.size by simp);obtain ⟨g,hge⟩:=aU (w9.heap.size);rw [←hge]at hv hV ⊢;clear hge;generalize w9.alloc (.cells #[.pointer none,.int .i64 0] 106)=wA at *
     rotate_left
     focus
      go_simp;refine hK.out _ _ ?_ (fun hH2=>?_)
      ·exact HS.out _ (hB.alloc hSZ _)
      clear hK K hH;have hH:=hH2;clear hH2;have hv:=aB.new w8 106 (.pointer none) (.int .i64 0);have hV:w5.heap.size≤w8.heap.size:=hSZ;replace Ir:=Ir.stay (bG (.cells #[.pointer none,.int .i64 0] 106));replace Iw:=Iw.stay (bG (.cells #[.pointer none,.int .i64 0] 106));replace hB:=hB.alloc hSZ (.cells #[.pointer none,.int .i64 0] 106);replace hSZ:=Nat.le_trans hSZ (show w8.heap.size≤(w8.alloc (.cells #[.pointer none,.int .i64 0] 106)).heap.size by simp);obtain ⟨g,hge⟩:=aU (w8.heap.size);rw [←hge]at hv hV ⊢;clear hge;generalize w8.alloc (.cells #[.pointer none,.int .i64 0] 106)=wA at *;try simp only [aZ]
      refine eD 8 (fun K hK=>?_);go_simp;go_at_call 313
      (with_reducible refine (jB Ir Iw (by rw [HU.out.2.1];have:=HU.out;omega) (by rw [HU.out.2.1];exact gY HO.out.1 k)).mono ?_);rintro e w9 ⟨p9,rfl,IA,hb⟩;rw [HU.out.2.1]at IA;replace hB:=hB.trans (hb.mono hSZ);replace hSZ:=Nat.le_trans hSZ hb.size;replace hv:=hv.stay hb;clear hb Ir Iw;refine hK.out _ _ ?_ (fun hH2=>?_)
      ·exact HS.out _ hB
      clear hK K hH;have hH:=hH2;clear hH2
     rotate_left
     all_goals
      try simp only [aZ]
      have vc0:=hv.c0;have vc1:=hv.c1;have vz0:=hv.z0;have vz1:=hv.z1;refine eD 10 (fun K hK=>?_);go_simp;refine hK.out _ _ ?_ (fun hH2=>?_)
      ·exact HS.out _ (aL hB hV _ _)
      clear hK K hH;have hH:=hH2;clear hH2;have hv2:=hv.set (.pointer p9.q) (.int .i64 p9.n);have Io:=IA.set2 hv dh (.pointer p9.q) (.int .i64 p9.n);have hB2:=aL hB hV (.pointer p9.q) (.int .i64 p9.n);clear vc0 vc1 vz0 vz1;try simp only [aZ]
      refine dn ?_;clear hH;exact ⟨rfl,_,_,_,_,_,_,_,_,_,g,p9,by (try simp only [aZ]);rfl,hB2,hV,hv2,Io⟩
    ·go_simp;refine hK.out _ _ ?_ (fun hH2=>?_)
     ·exact HS.out _ (hB.alloc hSZ _)
     clear hK K hH;have hH:=hH2;clear hH2;have hv:=aB.new w7 106 (.pointer none) (.int .i64 0);have hV:w5.heap.size≤w7.heap.size:=hSZ;replace Ir:=Ir.stay (bG (.cells #[.pointer none,.int .i64 0] 106));replace Iq:=Iq.stay (bG (.cells #[.pointer none,.int .i64 0] 106));replace hB:=hB.alloc hSZ (.cells #[.pointer none,.int .i64 0] 106);replace hSZ:=Nat.le_trans hSZ (show w7.heap.size≤(w7.alloc (.cells #[.pointer none,.int .i64 0] 106)).heap.size by simp);obtain ⟨g,hge⟩:=aU (w7.heap.size);rw [←hge]at hv hV ⊢;clear hge;generalize w7.alloc (.cells #[.pointer none,.int .i64 0] 106)=wA at *;try simp only [aZ]
     refine eD 7 (fun K hK=>?_);go_simp;go_at_call 144
     (with_reducible refine (eZ Iq).mono ?_);rintro e w8 ⟨p8,rfl,Iw,hb⟩;replace Ir:=Ir.stay hb;replace Iw:aA w8 ⟨us⟩ p8:=Iw;replace hB:=hB.trans (hb.mono hSZ);replace hSZ:=Nat.le_trans hSZ hb.size;replace hv:=hv.stay hb;clear hb Iq;refine hK.out _ _ ?_ (fun hH2=>?_)
     ·exact HS.out _ hB
     clear hK K hH;have hH:=hH2;clear hH2;try simp only [aZ]
     refine eD 8 (fun K hK=>?_);go_simp;go_at_call 313
     (with_reducible refine (jB Ir Iw (by rw [HU.out.2.1];have:=HU.out;omega) (by rw [HU.out.2.1];exact gY HO.out.1 k)).mono ?_);rintro e w9 ⟨p9,rfl,IA,hb⟩;rw [HU.out.2.1]at IA;replace hB:=hB.trans (hb.mono hSZ);replace hSZ:=Nat.le_trans hSZ hb.size;replace hv:=hv.stay hb;clear hb Ir Iw;refine hK.out _ _ ?_ (fun hH2=>?_)
     ·exact HS.out _ hB
     clear hK K hH;have hH:=hH2;clear hH2;try simp only [aZ]
     have vc0:=hv.c0;have vc1:=hv.c1;have vz0:=hv.z0;have vz1:=hv.z1;refine eD 10 (fun K hK=>?_);go_simp;refine hK.out _ _ ?_ (fun hH2=>?_)
     ·exact HS.out _ (aL hB hV _ _)
     clear hK K hH;have hH:=hH2;clear hH2;have hv2:=hv.set (.pointer p9.q) (.int .i64 p9.n);have Io:=IA.set2 hv dh (.pointer p9.q) (.int .i64 p9.n);have hB2:=aL hB hV (.pointer p9.q) (.int .i64 p9.n);clear vc0 vc1 vz0 vz1;try simp only [aZ]
     refine dn ?_;clear hH;exact ⟨rfl,_,_,_,_,_,_,_,_,_,g,p9,by (try simp only [aZ]);rfl,hB2,hV,hv2,Io⟩
   ·go_simp;refine hK.out _ _ ?_ (fun hH2=>?_)
    ·exact HS.out _ (hB.alloc hSZ _)
    clear hK K hH;have hH:=hH2;clear hH2;have hv:=aB.new w6 106 (.pointer none) (.int .i64 0);have hV:w5.heap.size≤w6.heap.size:=hSZ;replace hr:=hr.stay (bG (.cells #[.pointer none,.int .i64 0] 106));replace Iq:=Iq.stay (bG (.cells #[.pointer none,.int .i64 0] 106));replace hB:=hB.alloc hSZ (.cells #[.pointer none,.int .i64 0] 106);replace hSZ:=Nat.le_trans hSZ (show w6.heap.size≤(w6.alloc (.cells #[.pointer none,.int .i64 0] 106)).heap.size by simp);obtain ⟨g,hge⟩:=aU (w6.heap.size);rw [←hge]at hv hV ⊢;clear hge;generalize w6.alloc (.cells #[.pointer none,.int .i64 0] 106)=wA at *;try simp only [aZ]
    refine eD 5 (fun K hK=>?_);go_simp;go_at_call 312
    obtain ⟨ps,hr1,hr2⟩:=hr.take k;(with_reducible refine (xu hr1 hr2 (by rw [List.length_take];have:=HU.out;omega) (Nat.lt_of_le_of_lt (cO _ _) HU.out.2.2.2.2.2.2) (jw HO.out.1 (List.take_sublist k _))).mono ?_);rintro e w7 ⟨p7,rfl,Ir,hb⟩;replace Iq:=Iq.stay hb;replace hB:=hB.trans (hb.mono hSZ);replace hSZ:=Nat.le_trans hSZ hb.size;replace hv:=hv.stay hb;clear hb hr hr1 hr2;refine hK.out _ _ ?_ (fun hH2=>?_)
    ·exact HS.out _ hB
    clear hK K hH;have hH:=hH2;clear hH2;try simp only [aZ]
    refine eD 7 (fun K hK=>?_);go_simp;go_at_call 144
    (with_reducible refine (eZ Iq).mono ?_);rintro e w8 ⟨p8,rfl,Iw,hb⟩;replace Ir:=Ir.stay hb;replace Iw:aA w8 ⟨us⟩ p8:=Iw;replace hB:=hB.trans (hb.mono hSZ);replace hSZ:=Nat.le_trans hSZ hb.size;replace hv:=hv.stay hb;clear hb Iq;refine hK.out _ _ ?_ (fun hH2=>?_)
    ·exact HS.out _ hB
    clear hK K hH;have hH:=hH2;clear hH2;try simp only [aZ]
    refine eD 8 (fun K hK=>?_);go_simp;go_at_call 313
    (with_reducible refine (jB Ir Iw (by rw [HU.out.2.1];have:=HU.out;omega) (by rw [HU.out.2.1];exact gY HO.out.1 k)).mono ?_);rintro e w9 ⟨p9,rfl,IA,hb⟩;rw [HU.out.2.1]at IA;replace hB:=hB.trans (hb.mono hSZ);replace hSZ:=Nat.le_trans hSZ hb.size;replace hv:=hv.stay hb;clear hb Ir Iw;refine hK.out _ _ ?_ (fun hH2=>?_)
    ·exact HS.out _ hB
    clear hK K hH;have hH:=hH2;clear hH2;try simp only [aZ]
    have vc0:=hv.c0;have vc1:=hv.c1;have vz0:=hv.z0;have vz1:=hv.z1;refine eD 10 (fun K hK=>?_);go_simp;refine hK.out _ _ ?_ (fun hH2=>?_)
    ·exact HS.out _ (aL hB hV _ _)
    clear hK K hH;have hH:=hH2;clear hH2;have hv2:=hv.set (.pointer p9.q) (.int .i64 p9.n);have Io:=IA.set2 hv dh (.pointer p9.q) (.int .i64 p9.n);have hB2:=aL hB hV (.pointer p9.q) (.int .i64 p9.n);clear vc0 vc1 vz0 vz1;try simp only [aZ]
    refine dn ?_;clear hH;exact ⟨rfl,_,_,_,_,_,_,_,_,_,g,p9,by (try simp only [aZ]);rfl,hB2,hV,hv2,Io⟩
  ·go_simp;refine hK.out _ _ ?_ (fun hH2=>?_)
   ·exact HS.out _ (hB.alloc hSZ _)
   clear hK K hH;have hH:=hH2;clear hH2;have hv:=aB.new wd 106 (.pointer none) (.int .i64 0);have hV:w5.heap.size≤wd.heap.size:=hSZ;replace IE:=IE.stay (bG (.cells #[.pointer none,.int .i64 0] 106));replace Iq:=Iq.stay (bG (.cells #[.pointer none,.int .i64 0] 106));replace hB:=hB.alloc hSZ (.cells #[.pointer none,.int .i64 0] 106);replace hSZ:=Nat.le_trans hSZ (show wd.heap.size≤(wd.alloc (.cells #[.pointer none,.int .i64 0] 106)).heap.size by simp);obtain ⟨g,hge⟩:=aU (wd.heap.size);rw [←hge]at hv hV ⊢;clear hge;generalize wd.alloc (.cells #[.pointer none,.int .i64 0] 106)=wA at *;try simp only [aZ]
   refine eD 2 (fun K hK=>?_);go_simp;go_at_call 223
   have hmt:aW wA (none:Option Nat) 0 0:=trivial;(with_reducible refine (pQ IE hmt).mono ?_);rintro e w6 ⟨A,n6,c6,rfl,hr, -,hb⟩;replace Iq:=Iq.stay hb;replace hB:=hB.trans (hb.mono hSZ);replace hSZ:=Nat.le_trans hSZ hb.size;replace hv:=hv.stay hb;clear hb IE;have c1:k≤n6:=by have:=hr.len;have:=HU.out;omega
   have c2:k≤c6:=Nat.le_trans c1 hr.cap;have c3:(0:Int)≤(k:Int):=by omega
   have c4:(k:Int)≤(c6:Int):=by omega
   have c5:(k:Int)≤(n6:Int):=by omega
   refine hK.out _ _ ?_ (fun hH2=>?_)
   ·exact HS.out _ hB
   clear hK K hH;have hH:=hH2;clear hH2;try simp only [aZ]
   refine tk 4 hH ?_;try simp only [aZ]
   refine eD 5 (fun K hK=>?_);go_simp;go_at_call 312
   obtain ⟨ps,hr1,hr2⟩:=hr.take k;(with_reducible refine (xu hr1 hr2 (by rw [List.length_take];have:=HU.out;omega) (Nat.lt_of_le_of_lt (cO _ _) HU.out.2.2.2.2.2.2) (jw HO.out.1 (List.take_sublist k _))).mono ?_);rintro e w7 ⟨p7,rfl,Ir,hb⟩;replace Iq:=Iq.stay hb;replace hB:=hB.trans (hb.mono hSZ);replace hSZ:=Nat.le_trans hSZ hb.size;replace hv:=hv.stay hb;clear hb hr hr1 hr2;refine hK.out _ _ ?_ (fun hH2=>?_)
   ·exact HS.out _ hB
   clear hK K hH;have hH:=hH2;clear hH2;try simp only [aZ]
   refine eD 7 (fun K hK=>?_);go_simp;go_at_call 144
   (with_reducible refine (eZ Iq).mono ?_);rintro e w8 ⟨p8,rfl,Iw,hb⟩;replace Ir:=Ir.stay hb;replace Iw:aA w8 ⟨us⟩ p8:=Iw;replace hB:=hB.trans (hb.mono hSZ);replace hSZ:=Nat.le_trans hSZ hb.size;replace hv:=hv.stay hb;clear hb Iq;refine hK.out _ _ ?_ (fun hH2=>?_)
   ·exact HS.out _ hB
   clear hK K hH;have hH:=hH2;clear hH2;try simp only [aZ]
   refine eD 8 (fun K hK=>?_);go_simp;go_at_call 313
   (with_reducible refine (jB Ir Iw (by rw [HU.out.2.1];have:=HU.out;omega) (by rw [HU.out.2.1];exact gY HO.out.1 k)).mono ?_);rintro e w9 ⟨p9,rfl,IA,hb⟩;rw [HU.out.2.1]at IA;replace hB:=hB.trans (hb.mono hSZ);replace hSZ:=Nat.le_trans hSZ hb.size;replace hv:=hv.stay hb;clear hb Ir Iw;refine hK.out _ _ ?_ (fun hH2=>?_)
   ·exact HS.out _ hB
   clear hK K hH;have hH:=hH2;clear hH2;try simp only [aZ]
   have vc0:=hv.c0;have vc1:=hv.c1;have vz0:=hv.z0;have vz1:=hv.z1;refine eD 10 (fun K hK=>?_);go_simp;refine hK.out _ _ ?_ (fun hH2=>?_)
   ·exact HS.out _ (aL hB hV _ _)
   clear hK K hH;have hH:=hH2;clear hH2;have hv2:=hv.set (.pointer p9.q) (.int .i64 p9.n);have Io:=IA.set2 hv dh (.pointer p9.q) (.int .i64 p9.n);have hB2:=aL hB hV (.pointer p9.q) (.int .i64 p9.n);clear vc0 vc1 vz0 vz1;try simp only [aZ]
   refine dn ?_;clear hH;exact ⟨rfl,_,_,_,_,_,_,_,_,_,g,p9,by (try simp only [aZ]);rfl,hB2,hV,hv2,Io⟩
 rintro x' w6 ⟨u27,u28,u29,u30,u31,u32,u33,u34,u35,g,p9,rfl,hB,hG,hg,ht⟩;try simp only [aZ]
 have K6:=hdz (K5.out.stay hB);have B6:=hdz (af (B5.out.2.1.stay hB) hg);have L6:=hdz (af ht (L5.out.2.2.stay hB));clear hB hG hg ht K5 B5 L5;go_wp2_with fail
 ((with_reducible refine (uI fa (some u) _ L6.out.2 (by have:=HU.out;simp only [bF];omega)).mono ?_);rintro e w7 ⟨v7,ps,rfl,hk7,hown,hb⟩);obtain ⟨A7,c7,rfl,hr7,hc7, -, -⟩:=hown.form;have hts:=(iG.ts hk7).kp (bO.below hb);have K7:=hdz (K6.out.stay hb);have B7:=hdz (af (B6.out.1.stay hb) (B6.out.2.stay hb));have L7:=hdz (L6.out.1.stay hb);have HR7:=hdz (af (show Row1 Lt.one w7 A7 ps from hr7) hts);have hpl:=hts.length;have hkl:u.ks.list.length≤u.size:=by rw [ay.lF];have:=u.wz;exact Nat.le_of_lt this
 obtain ⟨n7,hn7⟩:=aU (ps.length);rw [←hn7];have HN7:=hdz (show n7=ps.length∧n7<268435456 from ⟨hn7,by have:=HU.out;have h9:ps.length=u.ks.list.length:=hpl;omega⟩);have L7b:=hdz (L6.out.2.stay hb);clear hk7 hown hr7 hb hts K6 B6 L6 hn7 hpl hkl;go_wp2_with fail
 ((with_reducible refine (Lt.Bg HN7.out.1 HR7.out.1 (by have:=HN7.out;omega)).mono ?_);rintro e w8 ⟨q8,n8,rfl,hl8,hb⟩);have K8:=hdz (K7.out.stay hb);have B8:=hdz (af (B7.out.1.stay hb) (B7.out.2.stay hb));have L8:=hdz (af (L7.out.stay hb) (af hl8 (HR7.out.2.kp (bO.below hb))));have L8b:=hdz (L7b.out.stay hb);clear hl8 hb K7 B7 L7 L7b HR7;go_wp2_with fail
 (with_reducible refine (Lt.Cq L8.out.2.1).mono ?_);rintro e w9 ⟨q9,n9,rfl,hl9,hb⟩
 have hkids:aA w9 ⟨aO (t::r) k⟩ ⟨q9,(n9:Int)⟩:=by
  rw [HU.out.1.1];exact aA.of hl9 ((L8.out.2.2.kp (bO.below hb)).reverse) (by rw [gy,gJ];have:=HU.out;have h9:u.size=1+u.bs.length+u.ks.size:=rfl;omega) (uE HO.out.2.1 HO.out.2.2)
 have hA:=(Below.refl w9.heap.size w9).alloc (Nat.le_refl _) (.cells #[.pointer q9,.int .i64 (n9:Int)] 117);have K9:=hdz ((K8.out.stay hb).stay hA);have B9:=hdz (af ((B8.out.1.stay hb).stay hA) (af ((B8.out.2.stay hb).stay hA) (aB.new w9 117 (.pointer q9) (.int .i64 (n9:Int)))));have L9:=hdz (af ((L8.out.1.stay hb).stay hA) (hkids.stay hA));have L9b:=hdz ((L8b.out.stay hb).stay hA);clear hl9 hb K8 B8 L8 L8b hkids hA;have c0:=B9.out.2.2.c0;have c1:=B9.out.2.2.c1;have d0:=B9.out.2.1.c0;have d1:=B9.out.2.1.c1;go_wp2_with fail
 generalize w9.alloc (.cells #[.pointer q9,.int .i64 (n9:Int)] 117)=wB at *;generalize w9.heap.size=b9 at *;have HMM:=eT mo ⟨aO (t::r) k⟩ ⟨aK (t::r) k⟩ (c+(Lh.mk (t::r)).bT) m ⟨q9,(n9:Int)⟩ p9 wB (by show ah (aO (t::r) k)+ah (aK (t::r) k)<_;have:=HPS.out;omega) K9.out.mt (by have:=HN.out;omega) (by have:=HN.out;have:=HPO.out;omega) HN.out.2.2.1 (by have:=HN.out;omega) L9.out.2 L9.out.1;have hkr:rises (aO (t::r) k):=by rw [HU.out.1.1];exact ay.je HO.out.2.2.2
 have HMB:=hdz (show bI ⟨aO (t::r) k⟩ ⟨aK (t::r) k⟩=⟨cu (t::r) k⟩∧aQ ⟨aO (t::r) k⟩ ⟨aK (t::r) k⟩=dR (t::r) k from uU hkr);rw [HMB.out.1,HMB.out.2]at HMM;clear hkr;have TB:=hdz (L9b.out);((with_reducible refine HMM.mono ?_);rintro e w10 ⟨p10,rfl,ht10,hm10,hb10⟩);have R10:=hdz (B9.out.1.bt hb10 K9.out.mt (by decide));have K10:=hdz (K9.out.turn hm10 hb10 ax);have L10:=hdz (af ht10 (TB.out.kp (Kp.tree (Kp.bt hb10 K9.out.mt))));clear ht10 hm10 hb10 c0 c1 d0 d1 HMM;go_wp2_with fail
 ((with_reducible refine (sI fa (some u) _ L10.out.2 (by have:=HU.out;simp only [bF];omega)).mono ?_);rintro e w11 ⟨v11,rfl,hown,hb⟩);have hown:Own w11 w10.heap.size v11 u.bs:=hown;obtain ⟨A11,c11,rfl,hr11, -, -, -⟩:=hown.form;have hblk:=hown.block;have R11:=hdz (R10.out.stay hb);have K11:=hdz (K10.out.stay hb);have L11:=hdz (aA.stay L10.out.1 hb);have HNE:=hdz (show 0<u.bs.length → ∀b,mo=some b → ∀q,A11=some q→q.block≠b from fun h0 b eb q eq=>by subst eb;subst eq;have h1:=hblk q.block (by obtain ⟨b1,o1,e1, -⟩:=hr11 h0;cases e1;rfl);have h2:b<w10.heap.size:=aW.lt K10.out.mt;omega);have HR11:=hdz (show Row w11 A11 u.bs from hr11);clear hown hblk hr11 hb R10 K10 L10;go_wp2_with fail
 have HWW:=hdz (uq mo (c+(Lh.mk (t::r)).bT+(dR (t::r) k:Nat)) (m+(dR (t::r) k:Nat)) ⟨cu (t::r) k⟩ p10 A11 u.bs c11 _ K11.out.mt (by have:=HN.out;omega) (by have:=HN.out;have:=HPO.out;omega) (by have:=HN.out;omega) (by have:=HN.out;have:=HPO.out;omega) HR11.out (by show ah (cu (t::r) k)+_<_;rw [uP];exact HPS.out) HNE.out L11.out);((with_reducible refine HWW.out.mono ?_);rintro e w12 ⟨p12,rfl,ht12,hm12,hb12⟩);have R12:=hdz (R11.out.bt hb12 K11.out.mt (by decide));have K12:=hdz (K11.out.turn hm12 hb12 ax);have L12:=hdz ht12;have z0:=R12.out.z0;have z1:=R12.out.z1;have r0:=R12.out.c0;have r1:=R12.out.c1;have s0:=(R12.out.set (.pointer p12.q) (.int .i64 p12.n)).c0;have s1:=(R12.out.set (.pointer p12.q) (.int .i64 p12.n)).c1;clear ht12 hm12 hb12 HWW;go_wp2_with fail
 have hk:=K12.out.eY R12.out aj (by decide) (by have:=HA.out;omega) (.pointer p12.q) (.int .i64 p12.n);have e1:c+(((Lh.mk (t::r)).jf+(Lh.mk (t::r)).bT:Nat):Int)=c+((Lh.mk (t::r)).bT:Nat)+(dR (t::r) k:Nat)+(dG ⟨cu (t::r) k⟩ u.bs:Nat):=by rw [HPO.out.2.1];omega
 have e2:m+((Lh.mk (t::r)).jl:Nat)=m+(dR (t::r) k:Nat)+(dD ⟨cu (t::r) k⟩ u.bs:Nat):=by rw [HPO.out.2.2.1];omega
 exact bodyPost_ret (v := .tuple #[hp p12,.bool true]) (by simp [results,Tryz.results306,go_sem,s0,s1]) rfl ⟨p12,rfl,by rw [HPO.out.1];exact L12.out.set2 R12.out aj _ _,by rw [e1,e2];exact hk.mt,hk.bt⟩
theorem jb (mo:Option Nat)(c m:Int)(h:Lh)(p:HP)(w:World)(hs:h.size<134217728)(hm:aW w mo c m)(h0:0≤c)(h1:c<144115188075855872)(h2:0≤m)(h3:m<144115188075855872)
  (hh:aA w h p):Calls Tryz.prog 306 #[hp p,aF mo] w (gP mo (c+(h.jf+h.bT:Nat)) (m+h.jl) h.pop h.some w):=by
 obtain ⟨ts⟩:=h
 cases ts with
 | nil =>
  refine (kV mo c m p w hm h0 h1 h2 h3 hh).mono fun e w' ⟨p',he,ht,hm',hb⟩=>⟨p',he,ht,?_,hb⟩;have e1:(Lh.mk []).jf=0:=rfl;have e3:(Lh.mk []).jl=0:=rfl;have e2:(Lh.mk []).bT=0:=rfl;rw [e1,e2,e3];simpa using hm'
 | cons t r=>exact kX mo c m t r p w hs hm h0 h1 h2 h3 hh
end Go.Proofs.YtmeodbjlmjpnbaaGreat.Sk.Hp
namespace Go.Proofs.YtmeodbjlmjpnbaaGreat.Sk.Hp
open Go.Sort Go.RowKit
theorem kC (mo:Option Nat)(c m:Int)(A:Option Addr)(xs:List (Int×Int))(cap:Nat)(w:World)(hm:aW w mo c m)(h0:0≤c)(h1:c<288230376151711744)(h2:0≤m)(h3:m<288230376151711744)(hr:Row w A xs)(hn:xs.length<16777216)
  (hne:0<xs.length → ∀b,mo=some b → ∀q,A=some q→q.block≠b) :
  Calls Tryz.prog 47 #[aF mo,.slice A xs.length cap] w (bU mo (c+dG .nil xs) (m+dD .nil xs) (fG xs) w):=by
 have e1:aB (w.alloc (.cells #[.pointer none,.int .i64 0] 117)) w.heap.size 117 (.pointer none) (.int .i64 0):=aB.new w 117 _ _;have K1:dL au mo w c m (w.alloc (.cells #[.pointer none,.int .i64 0] 117)):=(dL.refl hm).alloc _;have HE:=hdz e1;have KK:=hdz K1;have HW:=hdz (uq mo c m .nil ⟨none,0⟩ A xs cap (w.alloc (.cells #[.pointer none,.int .i64 0] 117)) K1.mt h0 h1 h2 h3 (hr.below (bG _)) (by show 0+_<_;omega) hne (aA.nil _));clear hm h0 h1 h2 h3 hr hn hne e1 K1;generalize xs.length=n at *;go_enter Tryz.func47,Tryz.ntmps47
 go_wp2_with fail
 generalize w.alloc (.cells #[.pointer none,.int .i64 0] 117)=w1 at *;obtain ⟨a,ha⟩:=aU (w.heap.size);rw [←ha]at HE ⊢;have HA:=hdz ha;clear ha;((with_reducible refine HW.out.mono ?_);rintro e w2 ⟨p2,rfl,ht2,hm2,hb2⟩);have F6:=hdz (HE.out.bt hb2 KK.out.mt (by decide));have K6:=hdz (KK.out.turn hm2 hb2 ax);have L6:=hdz ht2;have z0:=F6.out.z0;have z1:=F6.out.z1;have r0:=F6.out.c0;have r1:=F6.out.c1;have s0:=(F6.out.set (.pointer p2.q) (.int .i64 p2.n)).c0;have s1:=(F6.out.set (.pointer p2.q) (.int .i64 p2.n)).c1;clear ht2 hm2 hb2;go_wp2_with fail
 have hk:=K6.out.eY F6.out aj (by decide) (by have:=HA.out;omega) (.pointer p2.q) (.int .i64 p2.n);exact bodyPost_ret (v:=hp p2) (by simp [results,Tryz.results47,go_sem,s0,s1]) rfl ⟨p2,rfl,L6.out.set2 F6.out aj _ _,hk.mt,hk.bt⟩
end Go.Proofs.YtmeodbjlmjpnbaaGreat.Sk.Hp
namespace Go.Proofs.YtmeodbjlmjpnbaaGreat.Sk.Hp
open Go.Sort Go.RowKit
theorem ic {h:Lh}(hg:h.good):h.min=(hd (dw h.all),decide (0<(dw h.all).length)):=by
 obtain ⟨ts⟩:=h
 cases ts with
 | nil=>rw [show (Lh.mk []).all=[] from rfl,kr];rfl
 | cons t r =>
  have hs:(Lh.mk (t::r)).min.2=true:=rfl;rw [jK (h:=⟨t::r⟩) hg.ok hs];exact Prod.ext rfl hs
theorem jM {h:Lh}(hg:h.good):h.some=decide (0<(dw h.all).length):=(show h.some=h.min.2 by exact (jX h).symm).trans (congrArg Prod.snd (ic hg))
theorem dJ (h:Lh):(dw h.all).length=h.size:=by rw [kG,Lh.aD]
theorem Ho (h:Lh)(x:Int×Int)(q:Option Addr)(n:Int)(w:World)(hs:h.size<16777216)(hh:aA w h ⟨q,n⟩) :
  Calls Tryz.prog 279 #[.agg #[.pointer q,.int .i64 n],.pointer none,el x] w fun e w' => ∃(q':Option Addr) (n':Int),e=.returned (.iface 183 (.agg #[.pointer q',.int .i64 n']))∧aA w' (h.insert x) ⟨q',n'⟩∧Below w.heap.size w w':=by
 obtain ⟨x1,x2⟩:=x;have hm:∀(k:Nat) (w:World),(method (k+1) 117 (.agg #[.pointer q,.int .i64 n]) "Insert").run Tryz.prog w=.ok (120,.agg #[.pointer q,.int .i64 n]) w:=fun _ _=>by kernel_rfl
 have hb1:Below w.heap.size w ((w.alloc (.cells #[.pointer q,.int .i64 n] 183)).alloc (.cells #[.int .i64 x1,.int .i64 x2] 29)):=(bG _).alloc (by simp) _;have H:=hdz (af (hh.stay hb1) hb1);have HS:=hdz hs;clear hh hb1 hs;go_enter Tryz.func279,Tryz.ntmps279
 go_wp2_with fail
 refine (di none 0 0 h (x1,x2) ⟨q,n⟩ _ (by have:=HS.out;omega) trivial (by decide) (by decide) (by decide) (by decide) H.out.1).mono ?_;rintro e w1 ⟨⟨q',n'⟩,rfl,ht, -,hb⟩;have Y:=hdz (af ht (H.out.2.trans (hb.gK.mono H.out.2.size)));clear ht hb;go_wp2_with fail
 refine bodyPost_ret (v := .iface 183 (.agg #[.pointer q',.int .i64 n'])) (by simp [results,Tryz.results279,go_sem]) rfl ⟨q',n',rfl,Y.out.1,Y.out.2⟩
theorem wN (h:Lh)(q:Option Addr)(n:Int)(w:World)(hg:h.good)(hh:aA w h ⟨q,n⟩) :
  Calls Tryz.prog 281 #[.agg #[.pointer q,.int .i64 n],.pointer none] w fun e w'=>e=.returned (.tuple #[el (hd (dw h.all)),.bool (decide (0<(dw h.all).length))])∧Below w.heap.size w w':=by
 have hm:∀(k:Nat) (w:World),(method (k+1) 117 (.agg #[.pointer q,.int .i64 n]) "Min").run Tryz.prog w=.ok (305,.agg #[.pointer q,.int .i64 n]) w:=fun _ _=>by kernel_rfl
 have hb1:Below w.heap.size w ((w.alloc (.cells #[.pointer q,.int .i64 n] 183)).alloc (.cells #[.int .i64 0,.int .i64 0] 29)):=(bG _).alloc (by simp) _
 have hv:aB ((w.alloc (.cells #[.pointer q,.int .i64 n] 183)).alloc (.cells #[.int .i64 0,.int .i64 0] 29)) (w.heap.size+1) 29 (.int .i64 0) (.int .i64 0):=by
  have:=aB.new (w.alloc (.cells #[.pointer q,.int .i64 n] 183)) 29 (.int .i64 0) (.int .i64 0);simpa only [World.size_alloc] using this
 have H:=hdz (af (hh.stay hb1) (af hb1 hv));obtain ⟨x,hx⟩:=aU (h.min);obtain ⟨⟨x1,x2⟩,z⟩:=x;have hx2:=hx.trans (ic hg);rw [show hd (dw h.all)=(x1,x2) from (congrArg Prod.fst hx2).symm,show decide (0<(dw h.all).length)=z from (congrArg Prod.snd hx2).symm];have HM:fH h=.tuple #[.agg #[.int .i64 x1,.int .i64 x2],.bool z]:=by unfold fH;rw [←hx]
 have HN:=hdz HM;clear hh hb1 hg hx hx2 HM hv;go_enter Tryz.func281,Tryz.ntmps281
 go_wp2_with fail
 refine (iX none 0 0 h ⟨q,n⟩ _ trivial (by decide) (by decide) H.out.1).mono ?_;rintro e w1 ⟨he, -,hb0⟩;have hb:=hb0.gK;clear hb0;rw [HN.out]at he;subst he;have hv:=H.out.2.2.stay hb;have c0:=hv.c0;have c1:=hv.c1;have z0:=hv.z0;have z1:=hv.z1;have hs:=hv.set (.int .i64 x1) (.int .i64 x2);have k0:=hs.c0;have k1:=hs.c1;have Y:=hdz (H.out.2.1.trans (hb.mono H.out.2.1.size));clear hb hv hs;go_wp2_with fail
 refine bodyPost_ret (v := .tuple #[.agg #[.int .i64 x1,.int .i64 x2],.bool z]) (by simp [results,Tryz.results281,go_sem,k0,k1]) rfl ⟨rfl,(Y.out.setCell (by simp) _).setCell (by simp) _⟩
theorem xO (h:Lh)(q:Option Addr)(n:Int)(w:World)(hs:h.size<16777216)(hh:aA w h ⟨q,n⟩) :
  Calls Tryz.prog 282 #[.agg #[.pointer q,.int .i64 n],.pointer none] w fun e w' => ∃(q':Option Addr) (n':Int),e=.returned (.tuple #[.iface 183 (.agg #[.pointer q',.int .i64 n']),.bool h.some])∧aA w' h.pop ⟨q',n'⟩∧Below w.heap.size w w':=by
 have hm:∀(k:Nat) (w:World),(method (k+1) 117 (.agg #[.pointer q,.int .i64 n]) "Pop").run Tryz.prog w=.ok (306,.agg #[.pointer q,.int .i64 n]) w:=fun _ _=>by kernel_rfl
 have hb1:Below w.heap.size w (w.alloc (.cells #[.pointer q,.int .i64 n] 183)):=bG _;have H:=hdz (af (hh.stay hb1) hb1);have HS:=hdz hs;obtain ⟨z,hz⟩:=aU (h.some);rw [←hz];have HZ:=hdz hz;clear hh hb1 hs hz;go_enter Tryz.func282,Tryz.ntmps282
 go_wp2_with fail
 refine (jb none 0 0 h ⟨q,n⟩ _ (by have:=HS.out;omega) trivial (by decide) (by decide) (by decide) (by decide) H.out.1).mono ?_;rintro e w1 ⟨⟨q',n'⟩,he,ht, -,hb⟩;rw [←HZ.out]at he;subst he;have Y:=hdz (af ht trivial);have hT:=H.out.2.trans (hb.gK.mono H.out.2.size);have HT:=hdz hT;clear ht hb hT;go_wp2_with fail
 refine bodyPost_ret (v := .tuple #[.iface 183 (.agg #[.pointer q',.int .i64 n']),.bool z]) (by simp [results,Tryz.results282,go_sem]) rfl ⟨q',n',rfl,Y.out.1.stay (bG _),HT.out.alloc HT.out.size _⟩
theorem qV (h:Lh)(q:Option Addr)(n:Int)(w:World)(hh:aA w h ⟨q,n⟩) :
  Calls Tryz.prog 284 #[.agg #[.pointer q,.int .i64 n]] w fun e w'=>e=.returned (.int .i64 (h.size:Nat))∧Below w.heap.size w w':=by
 have hm:∀(k:Nat) (w:World),(method (k+1) 117 (.agg #[.pointer q,.int .i64 n]) "Size").run Tryz.prog w=.ok (307,.agg #[.pointer q,.int .i64 n]) w:=fun _ _=>by kernel_rfl
 have hb1:Below w.heap.size w (w.alloc (.cells #[.pointer q,.int .i64 n] 183)):=bG _;have H:=hdz (af (hh.stay hb1) hb1);obtain ⟨z,hz⟩:∃z:Int,z=(h.size:Nat):=⟨_,rfl⟩;rw [←hz];have HZ:=hdz hz;clear hh hb1 hz;go_enter Tryz.func284,Tryz.ntmps284
 go_wp2_with fail
 refine (eF h ⟨q,n⟩ _ H.out.1).mono ?_;rintro e w1 ⟨he,hb⟩;rw [←HZ.out]at he;subst he;have Y:=hdz (H.out.2.trans (hb.mono H.out.2.size));clear hb;go_wp2_with fail
 refine bodyPost_ret (v := .int .i64 z) (by simp [results,Tryz.results284,go_sem]) rfl ⟨rfl,Y.out⟩
theorem qM (v:Value)(w:World):Calls Tryz.prog 37 #[.agg #[.iface 183 v]] w fun e w'=>e=.returned (.int .i64 4)∧Below w.heap.size w w':=by
 have hb1:Below w.heap.size w (w.alloc (.cells #[.iface 183 v] 27)):=bG _;have h1:∀(w:World),(Instr.typeAssert (.iface 183 v) 25 177 true).run Tryz.prog w=.ok (.tuple #[.agg #[.pointer none],.bool false]) w:=fun _=>by kernel_rfl
 have h2:∀(w:World),(Instr.typeAssert (.iface 183 v) 25 179 true).run Tryz.prog w=.ok (.tuple #[.agg #[.pointer none,.int .i64 0],.bool false]) w:=fun _=>by kernel_rfl
 have h3:∀(w:World),(Instr.typeAssert (.iface 183 v) 25 181 true).run Tryz.prog w=.ok (.tuple #[.agg #[.pointer none],.bool false]) w:=fun _=>by kernel_rfl
 have h4:∀(w:World),(Instr.typeAssert (.iface 183 v) 25 183 true).run Tryz.prog w=.ok (.tuple #[v,.bool true]) w:=fun _=>by kernel_rfl
 go_enter Tryz.func37,Tryz.ntmps37
 go_wp2_with fail
 refine bodyPost_ret (v := .int .i64 4) (by simp [results,Tryz.results37,go_sem]) rfl ⟨rfl,hb1⟩
theorem EI (q:Option Addr)(n:Int)(w:World):Calls Tryz.prog 46 #[.agg #[.pointer q,.int .i64 n]] w fun e w'=>e=.returned (.agg #[.iface 183 (.agg #[.pointer q,.int .i64 n])])∧Below w.heap.size w w':=by
 have hb1:Below w.heap.size w ((w.alloc (.cells #[.pointer q,.int .i64 n] 117)).alloc (.cells #[.iface 183 (.agg #[.pointer q,.int .i64 n])] 27)):=(bG _).alloc (by simp) _;go_enter Tryz.func46,Tryz.ntmps46
 go_wp2_with fail
 refine bodyPost_ret (v := .agg #[.iface 183 (.agg #[.pointer q,.int .i64 n])]) (by simp [results,Tryz.results46,go_sem]) rfl ⟨rfl,hb1⟩
theorem ET (A:Option Addr)(xs:List (Int×Int))(cap:Nat)(w:World)(hr:Row w A xs)(hn:xs.length<16777216) :
  Calls Tryz.prog 18 #[.pointer none,.int .i64 4,.slice A xs.length cap] w fun e w' => ∃(q':Option Addr) (n':Int),e=.returned (.tuple #[.agg #[.iface 183 (.agg #[.pointer q',.int .i64 n'])],.int .i64 0])∧aA w' (fG xs) ⟨q',n'⟩∧Below w.heap.size w w':=by
 have hb1:Below w.heap.size w (w.alloc (.cells #[.nilIface] 27)):=bG _;have H:=hdz (af (hr.below hb1) hb1);obtain ⟨L,hL⟩:=aU (xs.length);have HL:=hdz (af hL (hL▸hn:L<16777216));rw [←hL];clear hr hb1 hL hn;go_enter Tryz.func18,Tryz.ntmps18
 go_wp2_with fail
 have hL:=HL.out.1;subst hL;refine (kC none 0 0 A xs cap _ trivial (by decide) (by decide) (by decide) (by decide) H.out.1 HL.out.2 (fun _ _ e=>by cases e)).mono ?_;rintro e w1 ⟨⟨q',n'⟩,rfl,ht, -,hb⟩;have hB:=hb.gK;have hF:w1.heap[w.heap.size]?=some (.cells #[.nilIface] 27 (0,0)):=(hB.block _ (by simp)).trans (heap_alloc_new w _);have Y:=hdz (af ht (af (H.out.2.trans (hB.mono H.out.2.size)) hF));clear hB hF;clear ht hb;go_wp2_with fail
 refine (EI q' n' _).mono ?_;rintro e w2 ⟨rfl,hb2⟩;have hF:=(hb2.block _ (lt_of_heap Y.out.2.2)).trans Y.out.2.2;have k0:=one_cell hF;have z0:=iQ hF;have Z:=hdz (af (Y.out.1.stay hb2) (af (Y.out.2.1.trans (hb2.mono Y.out.2.1.size)) hF));clear hb2 hF;have k1:=one_cell (gD Z.out.2.2 (.iface 183 (.agg #[.pointer q',.int .i64 n'])));go_wp2_with fail
 refine bodyPost_ret (v := .tuple #[.agg #[.iface 183 (.agg #[.pointer q',.int .i64 n'])],.int .i64 0]) (by simp [results,Tryz.results18,go_sem,k1]) rfl ⟨q',n',rfl,Z.out.1.fQ (bO.set Z.out.2.2 (by unfold au dV;decide) 0 _) (by simp [World.setCell]),Z.out.2.1.setCell (Nat.le_refl _) _⟩
theorem fC {W W':World}(h:bO NH W W'):bO au W W':=fun b cs t ht=>h b cs t (by unfold au dV at ht;rcases ht with (rfl|rfl|rfl)|rfl<;>decide)
def At (W:World)(v:Value)(l:List (Int×Int)):Prop:=∃(q:Option Addr) (n:Int),v=.agg #[.pointer q,.int .i64 n] ∧ ∃h:Lh,aA W h ⟨q,n⟩∧h.good∧dw h.all=l
theorem mr:iT 4 183 279 280 281 282 284 At where
 mN:=fun _ _ _=>by kernel_rfl
 mP:=fun _ _ _=>by kernel_rfl
 mS:=fun _ _ _=>by kernel_rfl
 cN:=fun _ _=>by kernel_rfl
 cP:=fun _ _=>by kernel_rfl
 cS:=fun _ _=>by kernel_rfl
 stay:=fun ha hb=>by
  obtain ⟨q,n,rfl,h,hh,hg,rfl⟩:=ha;exact ⟨q,n,rfl,h,hh.stay hb,hg,rfl⟩
 keep:=fun ha hk hs=>by
  obtain ⟨q,n,rfl,h,hh,hg,rfl⟩:=ha;exact ⟨q,n,rfl,h,hh.fQ (fC hk) hs,hg,rfl⟩
 min:=fun v l w ha=>by
  obtain ⟨q,n,rfl,h,hh,hg,rfl⟩:=ha;exact wN h q n w hg hh
 pop:=fun v l w ha hn=>by
  obtain ⟨q,n,rfl,h,hh,hg,rfl⟩:=ha;rw [dJ]at hn;exact (xO h q n w hn hh).mono fun e w' ⟨q',n',he,ht,hb⟩=>⟨_,by rw [←jM hg];exact he,⟨q',n',rfl,_,ht,jE hg,kS hg.ok⟩,hb⟩
 size:=fun v l w ha=>by
  obtain ⟨q,n,rfl,h,hh,hg,rfl⟩:=ha;rw [dJ];exact qV h q n w hh
 kind:=fun v w=>qM v w
 of:=fun A xs cap w hr hn hf=>(ET A xs cap w hr hn).mono fun e w' ⟨q',n',he,ht,hb⟩=>⟨_,he,⟨q',n',rfl,_,ht,kT hf,nD xs⟩,hb⟩
end Go.Proofs.YtmeodbjlmjpnbaaGreat.Sk.Hp
