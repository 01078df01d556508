/- Contract of pairing.paired, told that two heaps are melded by Meld: the heap of kids, each two melded, then what came of them from the last one on; how many comparisons and nodes the meter counts; what was there stays, but for the meter's block. Conditions: fewer than 2 to the 27th elements, counts below 2 to the 59th. -/
import Derived.Test.YtmeodbjlmjpnbaaGreatPpa
import Derived.Deep.LoopGhost
import Derived.Test.YtmeodbjlmjpnbaaGreatPa
import Derived.Handy
set_option maxRecDepth 100000
set_option maxHeartbeats 8000000
namespace Go.Proofs.YtmeodbjlmjpnbaaGreat.Pd
open Go.Sort Go.RowKit
def Kd.oO:Kd→List Lh
 | .nil=>[]
 | .cons x ks .nil=>[.node x ks]
 | .cons x ks (.cons y ls r)=>bI (.node x ks) (.node y ls)::r.oO
def Kd.qF:Kd→Nat
 | .nil=>0
 | .cons _ _ .nil=>0
 | .cons x ks (.cons y ls r)=>aQ (.node x ks) (.node y ls)+r.qF
def mg:List Lh→Lh
 | []=>.nil
 | t::ts=>bI t (mg ts)
def jL:List Lh→Nat
 | []=>0
 | t::ts=>jL ts+aQ t (mg ts)
def sizes:List Lh→Nat
 | []=>0
 | t::ts=>t.size+sizes ts
theorem mI:∀a b:List Lh,sizes (a++b)=sizes a+sizes b
 | [],b=>by simp [sizes]
 | t::a,b=>by simp only [List.cons_append,sizes,mI a b];omega
theorem ow:∀a:List Lh,sizes a.reverse=sizes a
 | []=>rfl
 | t::a=>by rw [List.reverse_cons,mI,ow a];simp only [sizes];omega
theorem Bu (a:List Lh)(j:Nat):sizes (a.take j)≤sizes a:=by
 conv=>rhs;rw [←List.take_append_drop j a]
 rw [mI];omega
theorem xS:∀l:List Lh,(mg l).size=sizes l
 | []=>rfl
 | t::ts=>by simp only [mg,sizes,d9,xS ts]
theorem yw:∀l:List Lh,jL l≤l.length
 | []=>Nat.le_refl _
 | t::ts=>by simp only [jL,List.length_cons];have:=yw ts;have:=tK t (mg ts);omega
theorem Kd.wS:∀ks:Kd,sizes ks.oO=ks.size
 | .nil=>rfl
 | .cons x ks .nil=>by simp only [Kd.oO,sizes,Lh.size,Kd.size]
 | .cons x ks (.cons y ls r)=>by simp only [Kd.oO,sizes,Kd.size,r.wS];rw [d9];simp only [Lh.size];omega
theorem Kd.wM:∀ks:Kd,ks.qF≤ks.size
 | .nil=>Nat.le_refl _
 | .cons x ks .nil=>Nat.zero_le _
 | .cons x ks (.cons y ls r)=>by simp only [Kd.qF,yu,Kd.size];have:=r.wM;omega
theorem Kd.iq:∀ks:Kd,ks.oO.length≤ks.size
 | .nil=>Nat.le_refl _
 | .cons x ks .nil=>by simp only [Kd.oO,List.length_cons,List.length_nil,Kd.size];omega
 | .cons x ks (.cons y ls r)=>by simp only [Kd.oO,List.length_cons,Kd.size];have:=r.iq;omega
theorem Kd.uY:∀ks:Kd,ks.pair=mg ks.oO
 | .nil=>rfl
 | .cons x ks .nil=>rfl
 | .cons x ks (.cons y ls r)=>by rw [wU,Kd.oO,mg,r.uY]
theorem Kd.sZ:∀ks:Kd,ks.vW=ks.qF+jL ks.oO
 | .nil=>rfl
 | .cons x ks .nil=>rfl
 | .cons x ks (.cons y ls r)=>by simp only [Kd.vW,Kd.qF,Kd.oO,jL,r.sZ,r.uY];omega
theorem Kd.gV {r:Kd}(h:r.is=true):r.oO=bI r.head r.tail.head::r.tail.tail.oO:=by
 match r,h with
 | .cons x ks .nil,_=>rfl
 | .cons x ks (.cons y ls r),_=>rfl
theorem Kd.ni {r:Kd}(h:r.is=true):r.qF=aQ r.head r.tail.head+r.tail.tail.qF:=by
 match r,h with
 | .cons x ks .nil,_=>rfl
 | .cons x ks (.cons y ls r),_=>rfl
theorem Kd.jk {r:Kd}(h:r.is=true):r.size=r.head.size+r.tail.head.size+r.tail.tail.size:=by
 match r,h with
 | .cons x ks .nil,_=>simp only [Kd.size,Kd.head,Kd.tail,Lh.size]
 | .cons x ks (.cons y ls r),_=>simp only [Kd.size,Kd.head,Kd.tail,Lh.size];omega
theorem Kd.FN {r:Kd}(h:0<r.len):r.is=true:=by cases r with
 | nil=>simp [Kd.len]at h
 | cons=>rfl
theorem Kd.EM {r:Kd}(h:r.len=0):r=.nil:=by cases r with
 | nil=>rfl
 | cons=>simp [Kd.len]at h
theorem Kd.qL {r:Kd}(h:r.is=true):r.tail.tail.len<r.len:=by
 match r,h with
 | .cons x ks .nil,_=>simp only [Kd.len,Kd.tail];omega
 | .cons x ks (.cons y ls r),_=>simp only [Kd.len,Kd.tail];omega
section
variable {mo:Option Nat}{c m:Int}{W W':World}
theorem aA.bt {t:Lh}{p:Option Addr}(h:aA W t p)(hb:Bt mo W W')(hm:aW W mo c m):aA W' t p:=h.kp (hb.oG hm ax)
theorem iG.bt {t:Kd}{p:Option Addr}(h:iG W t p)(hb:Bt mo W W')(hm:aW W mo c m):iG W' t p:=h.kp (hb.oG hm ax)
theorem oD.bt {ts:List Lh}{p:Option Addr}{n:Nat}(h:oD W ts p n)(hb:Bt mo W W')(hm:aW W mo c m):oD W' ts p n:=h.kp (hb.oG hm ax) hb.size
theorem bJ.stay {b:Nat}{p:Option Addr}(h:bJ W b p)(hb:Below W.heap.size W W'):bJ W' b p:=(hb.block b (lt_of_heap h)).trans h
theorem bJ.bt {b:Nat}{p:Option Addr}(h:bJ W b p)(hb:Bt mo W W')(hm:aW W mo c m):bJ W' b p:=hb.row hm h (by decide)
theorem Kp.set2 {b:Nat}{t:TypeId}{x y:Value}(h:aB W b t x y)(ht:¬au t)(u v:Value):Kp W ((W.setCell ⟨b,0,none⟩ u).setCell ⟨b,1,none⟩ v):=(bO.set h ht 0 u).trans (bO.set (h.set0 u) ht 1 v)
theorem iV (W:World)(b:Nat)(u v:Value):((W.setCell ⟨b,0,none⟩ u).setCell ⟨b,1,none⟩ v).heap.size=W.heap.size:=by simp [World.setCell]
theorem bJ.set2 {b b':Nat}{p:Option Addr}(h:bJ W b p)(hne:b≠b')(u v:Value):bJ ((W.setCell ⟨b',0,none⟩ u).setCell ⟨b',1,none⟩ v) b p:=(aH _ _ hne).trans ((aH _ _ hne).trans h)
end
structure zT (mo:Option Nat)(w:World)(a:Nat)(r:Kd)(acc:List Lh)(p q:Option Addr)(n l:Nat)(c m:Int)(W:World):Prop where
 k:aB W a 242 (.pointer p) (.int .i64 (n:Int))
 rs:bJ W (a+1) none
 t:aB W (a+1+1) 242 (.pointer q) (.int .i64 (l:Int))
 ka:iG W r p
 ta:oD W acc q l
 tr:dL au mo w c m W
 own:w.heap.size≤a
 len:n=r.len
structure Pq (mo:Option Nat)(w:World)(a bf bs:Nat)(r:Kd)(acc:List Lh)(hf hs:Lh)(p q pf ps:Option Addr)(n l:Nat)(c m:Int)(W:World):Prop where
 st:zT mo w a r acc p q n l c m W
 f:bJ W bf pf
 s:bJ W bs ps
 lf:aA W hf pf
 ls:aA W hs ps
 nf:a+1+1<bf
 ns:a+1+1<bs
section
variable {mo:Option Nat}{w W W':World}{a bf bs:Nat}{r:Kd}{acc:List Lh}{hf hs:Lh}{p q pf ps:Option Addr}{n l:Nat}{c m c' m':Int}
theorem zT.turn (h:zT mo w a r acc p q n l c m W)(hm:aW W' mo c' m')(hb:Bt mo W W'):zT mo w a r acc p q n l c' m' W' :=
 ⟨h.k.bt hb h.tr.mt (by decide),h.rs.bt hb h.tr.mt,h.t.bt hb h.tr.mt (by decide),h.ka.bt hb h.tr.mt,h.ta.bt hb h.tr.mt,h.tr.turn hm hb ax,h.own,h.len⟩
theorem zT.stay (h:zT mo w a r acc p q n l c m W)(hb:Below W.heap.size W W'):zT mo w a r acc p q n l c m W':=h.turn (h.tr.mt.stay hb) (Bt.aV hb)
theorem Pq.turn (h:Pq mo w a bf bs r acc hf hs p q pf ps n l c m W)(hm:aW W' mo c' m')(hb:Bt mo W W'):Pq mo w a bf bs r acc hf hs p q pf ps n l c' m' W' :=
 ⟨h.st.turn hm hb,h.f.bt hb h.st.tr.mt,h.s.bt hb h.st.tr.mt,h.lf.bt hb h.st.tr.mt,h.ls.bt hb h.st.tr.mt,h.nf,h.ns⟩
theorem Pq.stay (h:Pq mo w a bf bs r acc hf hs p q pf ps n l c m W)(hb:Below W.heap.size W W'):Pq mo w a bf bs r acc hf hs p q pf ps n l c m W':=h.turn (h.st.tr.mt.stay hb) (Bt.aV hb)
theorem zT.next {r':Kd}{acc':List Lh}{p' q':Option Addr}{n' l':Nat}(h:zT mo w a r acc p q n l c m W)(hk:iG W r' p')(hn:n'=r'.len)(ht:oD W acc' q' l') :
  zT mo w a r' acc' p' q' n' l' c m ((((W.setCell ⟨a+1+1,0,none⟩ (.pointer q')).setCell ⟨a+1+1,1,none⟩ (.int .i64 (l':Int))).setCell ⟨a,0,none⟩ (.pointer p')).setCell ⟨a,1,none⟩ (.int .i64 (n':Int))):=by
 have k1:Kp W ((W.setCell ⟨a+1+1,0,none⟩ (.pointer q')).setCell ⟨a+1+1,1,none⟩ (.int .i64 (l':Int))):=Kp.set2 h.t dh _ _;have b1:aB ((W.setCell ⟨a+1+1,0,none⟩ (.pointer q')).setCell ⟨a+1+1,1,none⟩ (.int .i64 (l':Int))) a 242 (.pointer p) (.int .i64 (n:Int)):=h.k.aside (by omega) _ _;have k2:=k1.trans (Kp.set2 b1 dh (.pointer p') (.int .i64 (n':Int)));have t1:=h.tr.eY h.t dh (by decide) (by have:=h.own;omega) (.pointer q') (.int .i64 (l':Int));refine ⟨b1.set _ _,(h.rs.set2 (by omega) _ _).set2 (by omega) _ _,(h.t.set _ _).aside (by omega) _ _,hk.kp k2,ht.kp k2 (by rw [iV,iV];exact Nat.le_refl _),t1.eY b1 dh (by decide) h.own _ _,h.own,hn⟩
end
section
variable {w:World}{ks:Kd}{p:Option Addr}{n:Nat}
theorem tF (h:iG w ks p)(hn:n=ks.len)(hs:n<2147483648):Calls Tryz.prog 300 #[Lt.dA p n,.int .i64 2] w fun e w' => ∃(q:Option Addr) (n':Nat),e=.returned (Lt.dA q n')∧iG w' ks.tail.tail q∧n'=ks.tail.tail.len∧Below w.heap.size w w':=by
 subst hn;exact (GN h hs).mono fun _ _ ⟨q,he,hk,hb⟩=>⟨q,_,he,hk,rfl,hb⟩
theorem Co (h:iG w ks p)(hn:n=ks.len)(hs:n<2147483648):Calls Tryz.prog 227 #[Lt.dA p n] w fun e w' => ∃(q:Option Addr) (n':Nat),e=.returned (Lt.dA q n')∧iG w' ks.tail q∧n'=ks.tail.len∧Below w.heap.size w w':=by
 subst hn;exact (Gy h hs).mono fun _ _ ⟨q,he,hk,hb⟩=>⟨q,_,he,hk,rfl,hb⟩
theorem qo {ts:List Lh}{t:Lh}{q:Option Addr}(h:oD w ts p n)(hq:aA w t q)(hs:n+1<2147483648):Calls Tryz.prog 146 #[Lt.dA p n,hp q] w fun e w' => ∃(q':Option Addr) (n':Nat),e=.returned (Lt.dA q' n')∧oD w' (t::ts) q' n'∧Below w.heap.size w w' :=
 (gN h hq hs).mono fun _ _ ⟨q',he,hk,hb⟩=>⟨q',_,he,hk,hb⟩
theorem AO {m:Int}(h:iG w ks p):Calls Tryz.prog 226 #[Lt.dA p m] w fun e w' => ∃(q:Option Addr) (b:Bool),e=.returned (.tuple #[hp q,.bool b])∧aA w' ks.head q∧Below w.heap.size w w':=by
 obtain ⟨ps,h1,h2⟩:=h.list
 cases ks with
 | nil =>
  obtain rfl:=h2;obtain rfl:=h1.nil;exact (Lt.kK m w).mono fun e w' ⟨he,hb⟩=>⟨none,false,he,rfl,hb⟩
 | cons x ks r =>
  obtain ⟨q,ps',rfl,hq, -⟩:=h2;exact (Lt.jH p q ps' m w h1).mono fun e w' ⟨he,hb⟩=>⟨q,true,he,aA.stay hq hb,hb⟩
end
def vP (W:World)(base:Nat)(A:Option Addr)(L:Nat)(ps:List (Option Addr)):Prop :=
 L=ps.length ∧ ∀j,j<L → ∃(g:Nat) (x:Option Addr) (cur:Array Value),A=some ⟨g,0,none⟩∧base≤g∧W.heap[g]?=some (.cells cur 113 (0,0))∧ps[j]?=some x∧cur[j]?=some (.pointer x)
theorem Bd {W:World}{base:Nat}{A:Option Addr}{L k:Nat}{ps:List (Option Addr)}(h:Mine Lt.one 113 W base (.slice A L k) ps):vP W base A L ps:=by
 have h0:=h;rcases h.2 with ⟨e,hn⟩|⟨g,cap,cur,e,hb,hg,hc,hm,hs,ht⟩
 ·cases e
  exact ⟨hn.symm,fun j hj=>absurd hj (by omega)⟩
 ·cases e
  refine ⟨rfl,fun j hj=>⟨g,ps[j],cur,rfl,hb,hg,List.getElem?_eq_getElem hj,?_⟩⟩;have hz:=h0.cells (g:=g) rfl j (.pointer ps[j]) (by simp [hj]);rw [jY,Nat.zero_add]at hz;simpa [World.cell?,hg] using hz
theorem vP.bt {mo:Option Nat}{c m:Int}{W W':World}{base:Nat}{A:Option Addr}{L:Nat}{ps:List (Option Addr)}(h:vP W base A L ps)(hb:Bt mo W W')(hm:aW W mo c m):vP W' base A L ps :=
 ⟨h.1,fun j hj=>by obtain ⟨g,x,cur,h1,h2,h3,h4,h5⟩:=h.2 j hj;exact ⟨g,x,cur,h1,h2,hb.row hm h3 (by decide),h4,h5⟩⟩
theorem vP.set {W:World}{base:Nat}{A:Option Addr}{L:Nat}{ps:List (Option Addr)}(h:vP W base A L ps){b:Nat}(hb:b<base)(u:Value):vP (W.setCell ⟨b,0,none⟩ u) base A L ps :=
 ⟨h.1,fun j hj=>by obtain ⟨g,x,cur,h1,h2,h3,h4,h5⟩:=h.2 j hj;exact ⟨g,x,cur,h1,h2,(aH _ _ (by omega)).trans h3,h4,h5⟩⟩
theorem pK.bt {mo:Option Nat}{c m:Int}{W W':World}{ts:List Lh}{ps:List (Option Addr)}(h:pK W ts ps)(hb:Bt mo W W')(hm:aW W mo c m):pK W' ts ps:=h.kp (hb.oG hm ax)
theorem bJ.put {W:World}{b:Nat}{p:Option Addr}(h:bJ W b p)(q:Option Addr):bJ (W.setCell ⟨b,0,none⟩ (.pointer q)) b q:=heap_put (j:=0) h _
theorem bJ.set {W:World}{b':Nat}{p:Option Addr}(h:bJ W b' p){b:Nat}(hne:b'≠b)(off:Nat)(u:Value):bJ (W.setCell ⟨b,off,none⟩ u) b' p:=(aH _ _ hne).trans h
structure Pl (mo:Option Nat)(w:World)(a ba base:Nat)(acc:List Lh)(ps:List (Option Addr))(A:Option Addr)(L j:Nat)(pa:Option Addr)(c m:Int)(W:World):Prop where
 v:bJ W ba pa
 r:bJ W (a+1) none
 row:vP W base A L ps
 hs:pK W acc ps
 at_:aA W (mg (acc.take j).reverse) pa
 tr:dL au mo w (c+(jL (acc.take j).reverse:Nat)) (m+(jL (acc.take j).reverse:Nat)) W
 own:w.heap.size≤a
 ga:a+1<ba
 gb:ba<base
theorem Pl.bt {mo:Option Nat}{w W W':World}{a ba base:Nat}{acc:List Lh}{ps:List (Option Addr)}{A:Option Addr}{L j:Nat}{pa:Option Addr}{c m:Int}(h:Pl mo w a ba base acc ps A L j pa c m W)(hb:Below W.heap.size W W'):Pl mo w a ba base acc ps A L j pa c m W' :=
 have hz:Bt mo W W':=Bt.aV hb;⟨h.v.bt hz h.tr.mt,h.r.bt hz h.tr.mt,h.row.bt hz h.tr.mt,h.hs.bt hz h.tr.mt,h.at_.bt hz h.tr.mt,h.tr.stay hb,h.own,h.ga,h.gb⟩
theorem yG (acc:List Lh)(j:Nat)(h:j<acc.length):(acc.take (j+1)).reverse=acc[j]::(acc.take j).reverse:=by
 rw [List.take_succ_eq_append_getElem h,List.reverse_append];rfl
theorem BD (mo:Option Nat)(c m:Int)(ks:Kd)(p:Option Addr)(n:Nat)(w:World)(hm:aW w mo c m)(h0:0≤c)(h1:c<576460752303423488)(h2:0≤m)(h3:m<576460752303423488)(hk:iG w ks p)(hn:n=ks.len)(hs:ks.size<134217728) :
  Calls Tryz.prog 366 #[aF mo,Lt.dA p n,.func (.func 119) #[] #[]] w (bU mo (c+ks.vW) (m+ks.vW) ks.pair w):=by
 have hb1:Below w.heap.size w (((w.alloc (.cells #[.pointer p,.int .i64 (n:Int)] 242)).alloc (.cells #[.pointer none] 113)).alloc (.cells #[.pointer none,.int .i64 0] 242)):=((bG _).alloc (by simp) _).alloc (by simp only [World.size_alloc];omega) _
 have P1:zT mo w w.heap.size ks [] p none n 0 c m (((w.alloc (.cells #[.pointer p,.int .i64 (n:Int)] 242)).alloc (.cells #[.pointer none] 113)).alloc (.cells #[.pointer none,.int .i64 0] 242)) :=
  ⟨((aB.new w _ _ _).alloc _).alloc _,bJ.alloc (bJ.at (by simp)) _,by have:=aB.new ((w.alloc (.cells #[.pointer p,.int .i64 (n:Int)] 242)).alloc (.cells #[.pointer none] 113)) 242 (.pointer none) (.int .i64 ((0:Nat):Int));simpa using this,hk.stay hb1,oD.none _,dL.below hm hb1,Nat.le_refl _,hn⟩
 have X:=hdz P1;have HN:=hdz (show 0≤c∧c<576460752303423488∧0≤m∧m<576460752303423488∧ks.size<134217728 from ⟨h0,h1,h2,h3,hs⟩);clear P1 hb1 hm h0 h1 h2 h3 hk hn hs;go_enter Tryz.func366,Tryz.ntmps366
 go_wp2_with fail
 generalize ((w.alloc (.cells #[.pointer p,.int .i64 (n:Int)] 242)).alloc (.cells #[.pointer none] 113)).alloc (.cells #[.pointer none,.int .i64 0] 242)=w1 at *;obtain ⟨a,ha⟩:=aU (w.heap.size);rw [←ha]at X ⊢;clear ha;go_loopg [9] ks.len (fun k v wr => ∃(r:Kd) (acc:List Lh) (p q:Option Addr) (n l k1:Nat),k=r.len∧acc.reverse++r.oO=ks.oO∧k1+r.qF=ks.qF∧sizes acc+r.size=ks.size∧l≤ks.size∧zT mo w a r acc p q n l (c+(k1:Int)) (m+(k1:Int)) wr)
 case atStart=>exact ⟨ks,[],p,none,n,0,0,rfl,rfl,by omega,by simp [sizes],Nat.zero_le _,by simpa using X.out⟩
 case round =>
  obtain ⟨r,acc,p,q,n,l,k1,hgk,hac,hk1,hsz,hll,P⟩:=hrel;have hl1:=P.ta.len;have hrl:=r.fE;have Q:=hdz (af hgk (af hac (af hk1 (af hsz (af hll (af P.len (af hrl ks.wM)))))));have P0:=hdz P;have k0:=P.k.c0;have k1':=P.k.c1;clear hgk hac hk1 hsz hll P hl1 hrl X;by_cases hpos:0<n
  ·have his:r.is=true:=Kd.FN (by have:=Q.out;omega);have HIS:=hdz his;clear his;have q1:(0:Int)<(n:Int):=by omega
   have q2:decide ((0:Int)<(n:Int))=true:=by simpa using hpos
   have q3:decide (0<n)=true:=by simpa using hpos
   go_wp2_with fail
   ((with_reducible refine (Lt.Cf).mono ?_);rintro e w2 ⟨rfl,hb2⟩);have P2:=hdz (P0.out.stay hb2);clear hb2 P0 k0 k1';have k0:=P2.out.k.c0;have k1':=P2.out.k.c1;go_wp2_with fail
   ((with_reducible refine (AO P2.out.ka).mono ?_);rintro e w3 ⟨pf,b1,rfl,hf,hb3⟩);have P3:=hdz (P2.out.stay hb3);have V3:=hdz (af (hf.stay (bG (.cells #[.pointer pf] 113))) (bJ.at (W:=w3) (p:=pf) rfl));have P4:=hdz (P3.out.stay (bG (.cells #[.pointer pf] 113)));clear hf hb3 P2 k0 k1';have k0:=P4.out.k.c0;have k1':=P4.out.k.c1;go_wp2_with fail
   generalize w3.alloc (.cells #[.pointer pf] 113)=w4 at *;obtain ⟨bf,hbf⟩:=aU (w3.heap.size);rw [←hbf]at V3 ⊢;have HBF:=hdz (show a+1+1<bf by rw [hbf];exact P3.out.t.lt);clear hbf P3;((with_reducible refine (Co P4.out.ka P4.out.len (by have:=Q.out;have:=HN.out;omega)).mono ?_);rintro e w5 ⟨p5,n5,rfl,hk5,hn5,hb5⟩);have P5:=hdz (P4.out.stay hb5);have V5:=hdz (af (V3.out.1.stay hb5) (V3.out.2.stay hb5));have K5:=hdz hk5;clear hk5 hn5 hb5 P4 V3 k0 k1';go_wp2_with fail
   ((with_reducible refine (AO K5.out).mono ?_);rintro e w6 ⟨ps,b2,rfl,hf,hb6⟩);have P6:=hdz (P5.out.stay hb6);have V6:=hdz (af (V5.out.1.stay hb6) (V5.out.2.stay hb6));have hz:=(Below.refl w6.heap.size w6).alloc (Nat.le_refl _) (.cells #[.pointer ps] 113);have V7:=hdz (af (hf.stay hz) (bJ.at (W:=w6) (p:=ps) rfl))
   have X7:=hdz (show Pq mo w a bf w6.heap.size r acc r.head r.tail.head p q pf ps n l (c+(k1:Int)) (m+(k1:Int)) (w6.alloc (.cells #[.pointer ps] 113)).drew from
    (Pq.mk (P6.out.stay hz) (V6.out.2.stay hz) V7.out.2 (V6.out.1.stay hz) V7.out.1 HBF.out P6.out.t.lt).stay ((Below.refl _ _).drew))
   clear hf hb6 P5 V5 K5 P6 V6 V7 hz;go_wp2_with fail
   obtain ⟨bs,hbs⟩:=aU (w6.heap.size);rw [←hbs]at X7 ⊢;clear hbs;refine wp_region_noPanic ?_;refine wp_region_held_drew (S:=fun w'=>w'.cell? ⟨bf,0,none⟩=some (.pointer pf)∧w'.cell? ⟨bs,0,none⟩=some (.pointer ps)) (by kernel_rfl) ⟨X7.out.f.c0,X7.out.s.c0⟩ (fun hH=>?_);generalize (w6.alloc (.cells #[.pointer ps] 113)).drew=W0 at *;refine tk 1 hH ?_;try simp only [aZ]
   refine tk 2 hH ?_;try simp only [aZ]
   refine tk 3 hH ?_;try simp only [aZ]
   refine tk 4 hH ?_;try simp only [aZ]
   refine wpAnyH_ready (rs:=[0,5,7]) (by as_aux_lemma=>kernel_rfl) (by simp) ?_;refine AllReadyH.cons (o:=_) rfl (fun K hK=>?_) (AllReadyH.cons (o:=_) rfl (fun K hK=>?_) (AllReadyH.cons (o:=_) rfl (fun K hK=>?_) AllReadyH.nil))
   ·have y0:=X7.out.st.t.c0;have y1:=X7.out.st.t.c1;go_simp;clear y0 y1;refine hK.out _ _ ?_ (fun hH2=>?_)
    ·exact ⟨X7.out.f.c0,X7.out.s.c0⟩
    clear hK K hH;have hH:=hH2;clear hH2;try simp only [aZ]
    refine uw 5 7 (fun K hK=>?_) (fun K hK=>?_)
    ·go_simp;(with_reducible refine (eT mo r.head r.tail.head (c+(k1:Int)) (m+(k1:Int)) pf ps _ (by have h5:=Kd.jk HIS.out;have:=Q.out;have:=HN.out;omega) X7.out.st.tr.mt (by have:=HN.out;omega) (by have:=HN.out;have:=Q.out;omega) (by have:=HN.out;omega) (by have:=HN.out;have:=Q.out;omega) X7.out.lf X7.out.ls).mono ?_);rintro e WA ⟨pm,rfl,ht,hm,hb⟩;have XA:=hdz (X7.out.turn hm hb);have TA:=hdz ht;clear ht hm hb X7;refine hK.out _ _ ?_ (fun hH2=>?_)
     ·exact ⟨XA.out.f.c0,XA.out.s.c0⟩
     clear hK K hH;have hH:=hH2;clear hH2;try simp only [aZ]
     refine uw 6 7 (fun K hK=>?_) (fun K hK=>?_)
     focus
      go_simp;(with_reducible refine (qo XA.out.st.ta TA.out (by have:=Q.out;have:=HN.out;omega)).mono ?_);rintro e WB ⟨q6,l6,rfl,ht,hb⟩;have HL6:=hdz (show l6≤ks.size by have h5:=ht.len;have h6:=XA.out.st.ta.len;have h7:=ks.iq;have h8:=congrArg List.length Q.out.2.1;rw [Kd.gV HIS.out]at h8;simp only [List.length_append,List.length_reverse,List.length_cons]at h8 h5;omega);have XB:=hdz (XA.out.stay hb);have T6:=hdz ht;clear ht hb XA TA;refine hK.out _ _ ?_ (fun hH2=>?_)
      ·exact ⟨XB.out.f.c0,XB.out.s.c0⟩
      clear hK K hH;have hH:=hH2;clear hH2;try simp only [aZ]
      refine eD 7 (fun K hK=>?_);have y0:=XB.out.st.k.c0;have y1:=XB.out.st.k.c1;go_simp;clear y0 y1
     rotate_left
     focus
      have y0:=XA.out.st.k.c0;have y1:=XA.out.st.k.c1;go_simp;clear y0 y1;refine hK.out _ _ ?_ (fun hH2=>?_)
      ·exact ⟨XA.out.f.c0,XA.out.s.c0⟩
      clear hK K hH;have hH:=hH2;clear hH2;try simp only [aZ]
      refine eD 6 (fun K hK=>?_);go_simp;(with_reducible refine (qo XA.out.st.ta TA.out (by have:=Q.out;have:=HN.out;omega)).mono ?_);rintro e WB ⟨q6,l6,rfl,ht,hb⟩;have HL6:=hdz (show l6≤ks.size by have h5:=ht.len;have h6:=XA.out.st.ta.len;have h7:=ks.iq;have h8:=congrArg List.length Q.out.2.1;rw [Kd.gV HIS.out]at h8;simp only [List.length_append,List.length_reverse,List.length_cons]at h8 h5;omega);have XB:=hdz (XA.out.stay hb);have T6:=hdz ht;clear ht hb XA TA
     rotate_left
     all_goals
      refine hK.out _ _ ?_ (fun hH2=>?_)
      ·exact ⟨XB.out.f.c0,XB.out.s.c0⟩
      clear hK K hH;have hH:=hH2;clear hH2;try simp only [aZ]
      refine eD 8 (fun K hK=>?_);go_simp;(with_reducible refine (tF XB.out.st.ka XB.out.st.len (by have:=Q.out;have:=HN.out;omega)).mono ?_);rintro e WC ⟨p8,n8,rfl,hk,hn,hb⟩;have XC:=hdz (XB.out.stay hb);have T6b:=hdz (T6.out.stay hb);have K8:=hdz hk;have HN8:=hdz hn;clear hk hn hb XB T6;have T6:=T6b;clear T6b;refine hK.out _ _ ?_ (fun hH2=>?_)
      ·exact ⟨XC.out.f.c0,XC.out.s.c0⟩
      clear hK K hH;have hH:=hH2;clear hH2;try simp only [aZ]
      refine eD 9 (fun K hK=>?_);have XS:=hdz XC.out.st;have HS9:=hdz (af (XC.out.f.set2 (b':=a+1+1) (by have:=XC.out.nf;omega) (.pointer q6) (.int .i64 (l6:Int))) (XC.out.s.set2 (b':=a+1+1) (by have:=XC.out.ns;omega) (.pointer q6) (.int .i64 (l6:Int))));have HB9:=hdz (af XC.out.nf XC.out.ns);have y0:=XS.out.t.c0;have y1:=XS.out.t.c1;have y2:=XS.out.t.z0;have y3:=XS.out.t.z1;go_simp;clear y0 y1 y2 y3;refine hK.out _ _ ?_ (fun hH2=>?_)
      ·exact ⟨HS9.out.1.c0,HS9.out.2.c0⟩
      clear hK K hH;have hH:=hH2;clear hH2;try simp only [aZ]
      refine eD 10 (fun K hK=>?_);have B9:=XS.out.k.aside (g:=a+1+1) (by omega) (.pointer q6) (.int .i64 (l6:Int));have y0:=B9.c0;have y1:=B9.c1;have y2:=B9.z0;have y3:=B9.z1;have HS10:=hdz (af (HS9.out.1.set2 (b':=a) (by have:=HB9.out;omega) (.pointer p8) (.int .i64 (n8:Int))) (HS9.out.2.set2 (b':=a) (by have:=HB9.out;omega) (.pointer p8) (.int .i64 (n8:Int))));clear B9;go_simp;clear y0 y1 y2 y3;refine hK.out _ _ ?_ (fun hH2=>?_)
      ·exact ⟨HS10.out.1.c0,HS10.out.2.c0⟩
      clear hK K hH;have hH:=hH2;clear hH2;try simp only [aZ]
      refine dn ?_;clear hH;go_wp2_with fail
      go_roundg (r.tail.tail.len)
      case measure=>have h5:=Kd.qL HIS.out;have:=Q.out;omega
      case rel=>exact ⟨r.tail.tail,bI r.head r.tail.head::acc,p8,q6,n8,l6,k1+aQ r.head r.tail.head,rfl,by have h5:=Q.out.2.1;rw [Kd.gV HIS.out]at h5;rw [List.reverse_cons,List.append_assoc];exact h5,by have h5:=Kd.ni HIS.out;have:=Q.out;omega,by have h5:=Kd.jk HIS.out;have:=Q.out.2.2.2.1;simp only [sizes,d9];omega,by have h5:=HL6.out;omega,by have h5:=zT.next XS.out K8.out HN8.out T6.out;have e1:c+((k1+aQ r.head r.tail.head:Nat):Int)=c+(k1:Int)+(aQ r.head r.tail.head:Nat):=(by omega);have e2:m+((k1+aQ r.head r.tail.head:Nat):Int)=m+(k1:Int)+(aQ r.head r.tail.head:Nat):=(by omega);rw [e1,e2];exact h5⟩
    ·have y0:=X7.out.st.k.c0;have y1:=X7.out.st.k.c1;go_simp;clear y0 y1;refine hK.out _ _ ?_ (fun hH2=>?_)
     ·exact ⟨X7.out.f.c0,X7.out.s.c0⟩
     clear hK K hH;have hH:=hH2;clear hH2;try simp only [aZ]
     refine eD 5 (fun K hK=>?_);go_simp;(with_reducible refine (eT mo r.head r.tail.head (c+(k1:Int)) (m+(k1:Int)) pf ps _ (by have h5:=Kd.jk HIS.out;have:=Q.out;have:=HN.out;omega) X7.out.st.tr.mt (by have:=HN.out;omega) (by have:=HN.out;have:=Q.out;omega) (by have:=HN.out;omega) (by have:=HN.out;have:=Q.out;omega) X7.out.lf X7.out.ls).mono ?_);rintro e WA ⟨pm,rfl,ht,hm,hb⟩;have XA:=hdz (X7.out.turn hm hb);have TA:=hdz ht;clear ht hm hb X7;refine hK.out _ _ ?_ (fun hH2=>?_)
     ·exact ⟨XA.out.f.c0,XA.out.s.c0⟩
     clear hK K hH;have hH:=hH2;clear hH2;try simp only [aZ]
     refine eD 6 (fun K hK=>?_);go_simp;(with_reducible refine (qo XA.out.st.ta TA.out (by have:=Q.out;have:=HN.out;omega)).mono ?_);rintro e WB ⟨q6,l6,rfl,ht,hb⟩;have HL6:=hdz (show l6≤ks.size by have h5:=ht.len;have h6:=XA.out.st.ta.len;have h7:=ks.iq;have h8:=congrArg List.length Q.out.2.1;rw [Kd.gV HIS.out]at h8;simp only [List.length_append,List.length_reverse,List.length_cons]at h8 h5;omega);have XB:=hdz (XA.out.stay hb);have T6:=hdz ht;clear ht hb XA TA;refine hK.out _ _ ?_ (fun hH2=>?_)
     ·exact ⟨XB.out.f.c0,XB.out.s.c0⟩
     clear hK K hH;have hH:=hH2;clear hH2;try simp only [aZ]
     refine eD 8 (fun K hK=>?_);go_simp;(with_reducible refine (tF XB.out.st.ka XB.out.st.len (by have:=Q.out;have:=HN.out;omega)).mono ?_);rintro e WC ⟨p8,n8,rfl,hk,hn,hb⟩;have XC:=hdz (XB.out.stay hb);have T6b:=hdz (T6.out.stay hb);have K8:=hdz hk;have HN8:=hdz hn;clear hk hn hb XB T6;have T6:=T6b;clear T6b;refine hK.out _ _ ?_ (fun hH2=>?_)
     ·exact ⟨XC.out.f.c0,XC.out.s.c0⟩
     clear hK K hH;have hH:=hH2;clear hH2;try simp only [aZ]
     refine eD 9 (fun K hK=>?_);have XS:=hdz XC.out.st;have HS9:=hdz (af (XC.out.f.set2 (b':=a+1+1) (by have:=XC.out.nf;omega) (.pointer q6) (.int .i64 (l6:Int))) (XC.out.s.set2 (b':=a+1+1) (by have:=XC.out.ns;omega) (.pointer q6) (.int .i64 (l6:Int))));have HB9:=hdz (af XC.out.nf XC.out.ns);have y0:=XS.out.t.c0;have y1:=XS.out.t.c1;have y2:=XS.out.t.z0;have y3:=XS.out.t.z1;go_simp;clear y0 y1 y2 y3;refine hK.out _ _ ?_ (fun hH2=>?_)
     ·exact ⟨HS9.out.1.c0,HS9.out.2.c0⟩
     clear hK K hH;have hH:=hH2;clear hH2;try simp only [aZ]
     refine eD 10 (fun K hK=>?_);have B9:=XS.out.k.aside (g:=a+1+1) (by omega) (.pointer q6) (.int .i64 (l6:Int));have y0:=B9.c0;have y1:=B9.c1;have y2:=B9.z0;have y3:=B9.z1;have HS10:=hdz (af (HS9.out.1.set2 (b':=a) (by have:=HB9.out;omega) (.pointer p8) (.int .i64 (n8:Int))) (HS9.out.2.set2 (b':=a) (by have:=HB9.out;omega) (.pointer p8) (.int .i64 (n8:Int))));clear B9;go_simp;clear y0 y1 y2 y3;refine hK.out _ _ ?_ (fun hH2=>?_)
     ·exact ⟨HS10.out.1.c0,HS10.out.2.c0⟩
     clear hK K hH;have hH:=hH2;clear hH2;try simp only [aZ]
     refine dn ?_;clear hH;go_wp2_with fail
     go_roundg (r.tail.tail.len)
     case measure=>have h5:=Kd.qL HIS.out;have:=Q.out;omega
     case rel=>exact ⟨r.tail.tail,bI r.head r.tail.head::acc,p8,q6,n8,l6,k1+aQ r.head r.tail.head,rfl,by have h5:=Q.out.2.1;rw [Kd.gV HIS.out]at h5;rw [List.reverse_cons,List.append_assoc];exact h5,by have h5:=Kd.ni HIS.out;have:=Q.out;omega,by have h5:=Kd.jk HIS.out;have:=Q.out.2.2.2.1;simp only [sizes,d9];omega,by have h5:=HL6.out;omega,by have h5:=zT.next XS.out K8.out HN8.out T6.out;have e1:c+((k1+aQ r.head r.tail.head:Nat):Int)=c+(k1:Int)+(aQ r.head r.tail.head:Nat):=(by omega);have e2:m+((k1+aQ r.head r.tail.head:Nat):Int)=m+(k1:Int)+(aQ r.head r.tail.head:Nat):=(by omega);rw [e1,e2];exact h5⟩
   ·go_simp;(with_reducible refine (eT mo r.head r.tail.head (c+(k1:Int)) (m+(k1:Int)) pf ps _ (by have h5:=Kd.jk HIS.out;have:=Q.out;have:=HN.out;omega) X7.out.st.tr.mt (by have:=HN.out;omega) (by have:=HN.out;have:=Q.out;omega) (by have:=HN.out;omega) (by have:=HN.out;have:=Q.out;omega) X7.out.lf X7.out.ls).mono ?_);rintro e WA ⟨pm,rfl,ht,hm,hb⟩;have XA:=hdz (X7.out.turn hm hb);have TA:=hdz ht;clear ht hm hb X7;refine hK.out _ _ ?_ (fun hH2=>?_)
    ·exact ⟨XA.out.f.c0,XA.out.s.c0⟩
    clear hK K hH;have hH:=hH2;clear hH2;try simp only [aZ]
    refine uw 0 7 (fun K hK=>?_) (fun K hK=>?_)
    ·have y0:=XA.out.st.t.c0;have y1:=XA.out.st.t.c1;go_simp;clear y0 y1;refine hK.out _ _ ?_ (fun hH2=>?_)
     ·exact ⟨XA.out.f.c0,XA.out.s.c0⟩
     clear hK K hH;have hH:=hH2;clear hH2;try simp only [aZ]
     refine uw 6 7 (fun K hK=>?_) (fun K hK=>?_)
     focus
      go_simp;(with_reducible refine (qo XA.out.st.ta TA.out (by have:=Q.out;have:=HN.out;omega)).mono ?_);rintro e WB ⟨q6,l6,rfl,ht,hb⟩;have HL6:=hdz (show l6≤ks.size by have h5:=ht.len;have h6:=XA.out.st.ta.len;have h7:=ks.iq;have h8:=congrArg List.length Q.out.2.1;rw [Kd.gV HIS.out]at h8;simp only [List.length_append,List.length_reverse,List.length_cons]at h8 h5;omega);have XB:=hdz (XA.out.stay hb);have T6:=hdz ht;clear ht hb XA TA;refine hK.out _ _ ?_ (fun hH2=>?_)
      ·exact ⟨XB.out.f.c0,XB.out.s.c0⟩
      clear hK K hH;have hH:=hH2;clear hH2;try simp only [aZ]
      refine eD 7 (fun K hK=>?_);have y0:=XB.out.st.k.c0;have y1:=XB.out.st.k.c1;go_simp;clear y0 y1
     rotate_left
     focus
      have y0:=XA.out.st.k.c0;have y1:=XA.out.st.k.c1;go_simp;clear y0 y1;refine hK.out _ _ ?_ (fun hH2=>?_)
      ·exact ⟨XA.out.f.c0,XA.out.s.c0⟩
      clear hK K hH;have hH:=hH2;clear hH2;try simp only [aZ]
      refine eD 6 (fun K hK=>?_);go_simp;(with_reducible refine (qo XA.out.st.ta TA.out (by have:=Q.out;have:=HN.out;omega)).mono ?_);rintro e WB ⟨q6,l6,rfl,ht,hb⟩;have HL6:=hdz (show l6≤ks.size by have h5:=ht.len;have h6:=XA.out.st.ta.len;have h7:=ks.iq;have h8:=congrArg List.length Q.out.2.1;rw [Kd.gV HIS.out]at h8;simp only [List.length_append,List.length_reverse,List.length_cons]at h8 h5;omega);have XB:=hdz (XA.out.stay hb);have T6:=hdz ht;clear ht hb XA TA
     rotate_left
     all_goals
      refine hK.out _ _ ?_ (fun hH2=>?_)
      ·exact ⟨XB.out.f.c0,XB.out.s.c0⟩
      clear hK K hH;have hH:=hH2;clear hH2;try simp only [aZ]
      refine eD 8 (fun K hK=>?_);go_simp;(with_reducible refine (tF XB.out.st.ka XB.out.st.len (by have:=Q.out;have:=HN.out;omega)).mono ?_);rintro e WC ⟨p8,n8,rfl,hk,hn,hb⟩;have XC:=hdz (XB.out.stay hb);have T6b:=hdz (T6.out.stay hb);have K8:=hdz hk;have HN8:=hdz hn;clear hk hn hb XB T6;have T6:=T6b;clear T6b;refine hK.out _ _ ?_ (fun hH2=>?_)
      ·exact ⟨XC.out.f.c0,XC.out.s.c0⟩
      clear hK K hH;have hH:=hH2;clear hH2;try simp only [aZ]
      refine eD 9 (fun K hK=>?_);have XS:=hdz XC.out.st;have HS9:=hdz (af (XC.out.f.set2 (b':=a+1+1) (by have:=XC.out.nf;omega) (.pointer q6) (.int .i64 (l6:Int))) (XC.out.s.set2 (b':=a+1+1) (by have:=XC.out.ns;omega) (.pointer q6) (.int .i64 (l6:Int))));have HB9:=hdz (af XC.out.nf XC.out.ns);have y0:=XS.out.t.c0;have y1:=XS.out.t.c1;have y2:=XS.out.t.z0;have y3:=XS.out.t.z1;go_simp;clear y0 y1 y2 y3;refine hK.out _ _ ?_ (fun hH2=>?_)
      ·exact ⟨HS9.out.1.c0,HS9.out.2.c0⟩
      clear hK K hH;have hH:=hH2;clear hH2;try simp only [aZ]
      refine eD 10 (fun K hK=>?_);have B9:=XS.out.k.aside (g:=a+1+1) (by omega) (.pointer q6) (.int .i64 (l6:Int));have y0:=B9.c0;have y1:=B9.c1;have y2:=B9.z0;have y3:=B9.z1;have HS10:=hdz (af (HS9.out.1.set2 (b':=a) (by have:=HB9.out;omega) (.pointer p8) (.int .i64 (n8:Int))) (HS9.out.2.set2 (b':=a) (by have:=HB9.out;omega) (.pointer p8) (.int .i64 (n8:Int))));clear B9;go_simp;clear y0 y1 y2 y3;refine hK.out _ _ ?_ (fun hH2=>?_)
      ·exact ⟨HS10.out.1.c0,HS10.out.2.c0⟩
      clear hK K hH;have hH:=hH2;clear hH2;try simp only [aZ]
      refine dn ?_;clear hH;go_wp2_with fail
      go_roundg (r.tail.tail.len)
      case measure=>have h5:=Kd.qL HIS.out;have:=Q.out;omega
      case rel=>exact ⟨r.tail.tail,bI r.head r.tail.head::acc,p8,q6,n8,l6,k1+aQ r.head r.tail.head,rfl,by have h5:=Q.out.2.1;rw [Kd.gV HIS.out]at h5;rw [List.reverse_cons,List.append_assoc];exact h5,by have h5:=Kd.ni HIS.out;have:=Q.out;omega,by have h5:=Kd.jk HIS.out;have:=Q.out.2.2.2.1;simp only [sizes,d9];omega,by have h5:=HL6.out;omega,by have h5:=zT.next XS.out K8.out HN8.out T6.out;have e1:c+((k1+aQ r.head r.tail.head:Nat):Int)=c+(k1:Int)+(aQ r.head r.tail.head:Nat):=(by omega);have e2:m+((k1+aQ r.head r.tail.head:Nat):Int)=m+(k1:Int)+(aQ r.head r.tail.head:Nat):=(by omega);rw [e1,e2];exact h5⟩
    ·have y0:=XA.out.st.k.c0;have y1:=XA.out.st.k.c1;go_simp;clear y0 y1;refine hK.out _ _ ?_ (fun hH2=>?_)
     ·exact ⟨XA.out.f.c0,XA.out.s.c0⟩
     clear hK K hH;have hH:=hH2;clear hH2;try simp only [aZ]
     refine eD 0 (fun K hK=>?_);have y0:=XA.out.st.t.c0;have y1:=XA.out.st.t.c1;go_simp;clear y0 y1;refine hK.out _ _ ?_ (fun hH2=>?_)
     ·exact ⟨XA.out.f.c0,XA.out.s.c0⟩
     clear hK K hH;have hH:=hH2;clear hH2;try simp only [aZ]
     refine eD 6 (fun K hK=>?_);go_simp;(with_reducible refine (qo XA.out.st.ta TA.out (by have:=Q.out;have:=HN.out;omega)).mono ?_);rintro e WB ⟨q6,l6,rfl,ht,hb⟩;have HL6:=hdz (show l6≤ks.size by have h5:=ht.len;have h6:=XA.out.st.ta.len;have h7:=ks.iq;have h8:=congrArg List.length Q.out.2.1;rw [Kd.gV HIS.out]at h8;simp only [List.length_append,List.length_reverse,List.length_cons]at h8 h5;omega);have XB:=hdz (XA.out.stay hb);have T6:=hdz ht;clear ht hb XA TA;refine hK.out _ _ ?_ (fun hH2=>?_)
     ·exact ⟨XB.out.f.c0,XB.out.s.c0⟩
     clear hK K hH;have hH:=hH2;clear hH2;try simp only [aZ]
     refine eD 8 (fun K hK=>?_);go_simp;(with_reducible refine (tF XB.out.st.ka XB.out.st.len (by have:=Q.out;have:=HN.out;omega)).mono ?_);rintro e WC ⟨p8,n8,rfl,hk,hn,hb⟩;have XC:=hdz (XB.out.stay hb);have T6b:=hdz (T6.out.stay hb);have K8:=hdz hk;have HN8:=hdz hn;clear hk hn hb XB T6;have T6:=T6b;clear T6b;refine hK.out _ _ ?_ (fun hH2=>?_)
     ·exact ⟨XC.out.f.c0,XC.out.s.c0⟩
     clear hK K hH;have hH:=hH2;clear hH2;try simp only [aZ]
     refine eD 9 (fun K hK=>?_);have XS:=hdz XC.out.st;have HS9:=hdz (af (XC.out.f.set2 (b':=a+1+1) (by have:=XC.out.nf;omega) (.pointer q6) (.int .i64 (l6:Int))) (XC.out.s.set2 (b':=a+1+1) (by have:=XC.out.ns;omega) (.pointer q6) (.int .i64 (l6:Int))));have HB9:=hdz (af XC.out.nf XC.out.ns);have y0:=XS.out.t.c0;have y1:=XS.out.t.c1;have y2:=XS.out.t.z0;have y3:=XS.out.t.z1;go_simp;clear y0 y1 y2 y3;refine hK.out _ _ ?_ (fun hH2=>?_)
     ·exact ⟨HS9.out.1.c0,HS9.out.2.c0⟩
     clear hK K hH;have hH:=hH2;clear hH2;try simp only [aZ]
     refine eD 10 (fun K hK=>?_);have B9:=XS.out.k.aside (g:=a+1+1) (by omega) (.pointer q6) (.int .i64 (l6:Int));have y0:=B9.c0;have y1:=B9.c1;have y2:=B9.z0;have y3:=B9.z1;have HS10:=hdz (af (HS9.out.1.set2 (b':=a) (by have:=HB9.out;omega) (.pointer p8) (.int .i64 (n8:Int))) (HS9.out.2.set2 (b':=a) (by have:=HB9.out;omega) (.pointer p8) (.int .i64 (n8:Int))));clear B9;go_simp;clear y0 y1 y2 y3;refine hK.out _ _ ?_ (fun hH2=>?_)
     ·exact ⟨HS10.out.1.c0,HS10.out.2.c0⟩
     clear hK K hH;have hH:=hH2;clear hH2;try simp only [aZ]
     refine dn ?_;clear hH;go_wp2_with fail
     go_roundg (r.tail.tail.len)
     case measure=>have h5:=Kd.qL HIS.out;have:=Q.out;omega
     case rel=>exact ⟨r.tail.tail,bI r.head r.tail.head::acc,p8,q6,n8,l6,k1+aQ r.head r.tail.head,rfl,by have h5:=Q.out.2.1;rw [Kd.gV HIS.out]at h5;rw [List.reverse_cons,List.append_assoc];exact h5,by have h5:=Kd.ni HIS.out;have:=Q.out;omega,by have h5:=Kd.jk HIS.out;have:=Q.out.2.2.2.1;simp only [sizes,d9];omega,by have h5:=HL6.out;omega,by have h5:=zT.next XS.out K8.out HN8.out T6.out;have e1:c+((k1+aQ r.head r.tail.head:Nat):Int)=c+(k1:Int)+(aQ r.head r.tail.head:Nat):=(by omega);have e2:m+((k1+aQ r.head r.tail.head:Nat):Int)=m+(k1:Int)+(aQ r.head r.tail.head:Nat):=(by omega);rw [e1,e2];exact h5⟩
   ·have y0:=X7.out.st.k.c0;have y1:=X7.out.st.k.c1;go_simp;clear y0 y1;refine hK.out _ _ ?_ (fun hH2=>?_)
    ·exact ⟨X7.out.f.c0,X7.out.s.c0⟩
    clear hK K hH;have hH:=hH2;clear hH2;try simp only [aZ]
    refine uw 0 5 (fun K hK=>?_) (fun K hK=>?_)
    focus
     have y0:=X7.out.st.t.c0;have y1:=X7.out.st.t.c1;go_simp;clear y0 y1;refine hK.out _ _ ?_ (fun hH2=>?_)
     ·exact ⟨X7.out.f.c0,X7.out.s.c0⟩
     clear hK K hH;have hH:=hH2;clear hH2;try simp only [aZ]
     refine eD 5 (fun K hK=>?_);go_simp;(with_reducible refine (eT mo r.head r.tail.head (c+(k1:Int)) (m+(k1:Int)) pf ps _ (by have h5:=Kd.jk HIS.out;have:=Q.out;have:=HN.out;omega) X7.out.st.tr.mt (by have:=HN.out;omega) (by have:=HN.out;have:=Q.out;omega) (by have:=HN.out;omega) (by have:=HN.out;have:=Q.out;omega) X7.out.lf X7.out.ls).mono ?_);rintro e WA ⟨pm,rfl,ht,hm,hb⟩;have XA:=hdz (X7.out.turn hm hb);have TA:=hdz ht;clear ht hm hb X7
    rotate_left
    focus
     go_simp;(with_reducible refine (eT mo r.head r.tail.head (c+(k1:Int)) (m+(k1:Int)) pf ps _ (by have h5:=Kd.jk HIS.out;have:=Q.out;have:=HN.out;omega) X7.out.st.tr.mt (by have:=HN.out;omega) (by have:=HN.out;have:=Q.out;omega) (by have:=HN.out;omega) (by have:=HN.out;have:=Q.out;omega) X7.out.lf X7.out.ls).mono ?_);rintro e WA ⟨pm,rfl,ht,hm,hb⟩;have XA:=hdz (X7.out.turn hm hb);have TA:=hdz ht;clear ht hm hb X7;refine hK.out _ _ ?_ (fun hH2=>?_)
     ·exact ⟨XA.out.f.c0,XA.out.s.c0⟩
     clear hK K hH;have hH:=hH2;clear hH2;try simp only [aZ]
     refine eD 0 (fun K hK=>?_);have y0:=XA.out.st.t.c0;have y1:=XA.out.st.t.c1;go_simp;clear y0 y1
    rotate_left
    all_goals
     refine hK.out _ _ ?_ (fun hH2=>?_)
     ·exact ⟨XA.out.f.c0,XA.out.s.c0⟩
     clear hK K hH;have hH:=hH2;clear hH2;try simp only [aZ]
     refine eD 6 (fun K hK=>?_);go_simp;(with_reducible refine (qo XA.out.st.ta TA.out (by have:=Q.out;have:=HN.out;omega)).mono ?_);rintro e WB ⟨q6,l6,rfl,ht,hb⟩;have HL6:=hdz (show l6≤ks.size by have h5:=ht.len;have h6:=XA.out.st.ta.len;have h7:=ks.iq;have h8:=congrArg List.length Q.out.2.1;rw [Kd.gV HIS.out]at h8;simp only [List.length_append,List.length_reverse,List.length_cons]at h8 h5;omega);have XB:=hdz (XA.out.stay hb);have T6:=hdz ht;clear ht hb XA TA;refine hK.out _ _ ?_ (fun hH2=>?_)
     ·exact ⟨XB.out.f.c0,XB.out.s.c0⟩
     clear hK K hH;have hH:=hH2;clear hH2;try simp only [aZ]
     refine eD 8 (fun K hK=>?_);go_simp;(with_reducible refine (tF XB.out.st.ka XB.out.st.len (by have:=Q.out;have:=HN.out;omega)).mono ?_);rintro e WC ⟨p8,n8,rfl,hk,hn,hb⟩;have XC:=hdz (XB.out.stay hb);have T6b:=hdz (T6.out.stay hb);have K8:=hdz hk;have HN8:=hdz hn;clear hk hn hb XB T6;have T6:=T6b;clear T6b;refine hK.out _ _ ?_ (fun hH2=>?_)
     ·exact ⟨XC.out.f.c0,XC.out.s.c0⟩
     clear hK K hH;have hH:=hH2;clear hH2;try simp only [aZ]
     refine eD 9 (fun K hK=>?_);have XS:=hdz XC.out.st;have HS9:=hdz (af (XC.out.f.set2 (b':=a+1+1) (by have:=XC.out.nf;omega) (.pointer q6) (.int .i64 (l6:Int))) (XC.out.s.set2 (b':=a+1+1) (by have:=XC.out.ns;omega) (.pointer q6) (.int .i64 (l6:Int))));have HB9:=hdz (af XC.out.nf XC.out.ns);have y0:=XS.out.t.c0;have y1:=XS.out.t.c1;have y2:=XS.out.t.z0;have y3:=XS.out.t.z1;go_simp;clear y0 y1 y2 y3;refine hK.out _ _ ?_ (fun hH2=>?_)
     ·exact ⟨HS9.out.1.c0,HS9.out.2.c0⟩
     clear hK K hH;have hH:=hH2;clear hH2;try simp only [aZ]
     refine eD 10 (fun K hK=>?_);have B9:=XS.out.k.aside (g:=a+1+1) (by omega) (.pointer q6) (.int .i64 (l6:Int));have y0:=B9.c0;have y1:=B9.c1;have y2:=B9.z0;have y3:=B9.z1;have HS10:=hdz (af (HS9.out.1.set2 (b':=a) (by have:=HB9.out;omega) (.pointer p8) (.int .i64 (n8:Int))) (HS9.out.2.set2 (b':=a) (by have:=HB9.out;omega) (.pointer p8) (.int .i64 (n8:Int))));clear B9;go_simp;clear y0 y1 y2 y3;refine hK.out _ _ ?_ (fun hH2=>?_)
     ·exact ⟨HS10.out.1.c0,HS10.out.2.c0⟩
     clear hK K hH;have hH:=hH2;clear hH2;try simp only [aZ]
     refine dn ?_;clear hH;go_wp2_with fail
     go_roundg (r.tail.tail.len)
     case measure=>have h5:=Kd.qL HIS.out;have:=Q.out;omega
     case rel=>exact ⟨r.tail.tail,bI r.head r.tail.head::acc,p8,q6,n8,l6,k1+aQ r.head r.tail.head,rfl,by have h5:=Q.out.2.1;rw [Kd.gV HIS.out]at h5;rw [List.reverse_cons,List.append_assoc];exact h5,by have h5:=Kd.ni HIS.out;have:=Q.out;omega,by have h5:=Kd.jk HIS.out;have:=Q.out.2.2.2.1;simp only [sizes,d9];omega,by have h5:=HL6.out;omega,by have h5:=zT.next XS.out K8.out HN8.out T6.out;have e1:c+((k1+aQ r.head r.tail.head:Nat):Int)=c+(k1:Int)+(aQ r.head r.tail.head:Nat):=(by omega);have e2:m+((k1+aQ r.head r.tail.head:Nat):Int)=m+(k1:Int)+(aQ r.head r.tail.head:Nat):=(by omega);rw [e1,e2];exact h5⟩
  ·have hz:n=0:=by omega
   have hr0:r=.nil:=Kd.EM (by have:=Q.out;omega);subst hr0;have hacc:acc.reverse=ks.oO:=by have h5:=Q.out.2.1;simpa [Kd.oO] using h5
   have hkk:k1=ks.qF:=by have h5:=Q.out.2.2.1;simpa [Kd.qF] using h5
   have Q2:=hdz (show acc.reverse=ks.oO∧k1=ks.qF∧sizes acc=ks.size∧acc.length≤ks.size∧k1≤ks.size from ⟨hacc,hkk,by rw [←ow,hacc,ks.wS],by rw [←List.length_reverse,hacc];exact ks.iq,by rw [hkk];exact ks.wM⟩);clear hacc hkk hpos Q;have q1:¬(0:Int)<(n:Int):=by omega
   have q2:decide ((0:Int)<(n:Int))=false:=by simp;omega
   have q3:decide (0<n)=false:=by simp;omega
   clear hz;go_wp2_with fail
   ((with_reducible refine (Lt.Cf).mono ?_);rintro e w2 ⟨rfl,hb2⟩);have P2:=hdz (P0.out.stay hb2);clear hb2 P0 k0 k1';have P3:=hdz (P2.out.stay (bG (.cells #[.pointer none] 113)));have V3:=hdz (bJ.at (W:=w2) (p:=none) rfl);have t0:=P3.out.t.c0;have t1:=P3.out.t.c1;go_wp2_with fail
   generalize w2.alloc (.cells #[.pointer none] 113)=w3 at *;obtain ⟨ba,hba⟩:=aU (w2.heap.size);rw [←hba]at V3 ⊢;have HBA:=hdz (show a+1<ba by have:=P2.out.t.lt;omega);clear hba P2 t0 t1;((with_reducible refine (pQ P3.out.ta).mono ?_);rintro e w4 ⟨A,cap,pp,rfl,hmi, -,hhs,hcap,hb4⟩);have hrow:=Bd hmi;have hlen:l=acc.length:=P3.out.ta.len;have PL:=hdz (show Pl mo w a ba w3.heap.size acc pp A l 0 none (c+(k1:Int)) (m+(k1:Int)) w4 from ⟨V3.out.stay hb4,P3.out.rs.stay hb4,hrow,hhs,by simpa [mg] using aA.none _,by simpa [jL] using P3.out.tr.stay hb4,P3.out.own,HBA.out,lt_of_heap V3.out⟩);have HL:=hdz hlen;clear hmi hhs hcap hb4 hrow hlen V3 P3;generalize w3.heap.size=base at *;go_wp2_with fail
   go_loopg [41] l (fun k i wr => ∃(j:Nat) (pa:Option Addr),i=.int .i64 (j:Int)∧j+k=l∧Pl mo w a ba base acc pp A l j pa (c+(k1:Int)) (m+(k1:Int)) wr)
   case atStart=>exact ⟨0,none,rfl,by omega,PL.out⟩
   case round =>
    clear PL;obtain ⟨j,pa,rfl,hj,P⟩:=hrel;have P0:=hdz P;clear P;by_cases hlt:j<l
    ·obtain ⟨g,x,cur,rfl,hgb,hgg,hpx,hcx⟩:=P0.out.row.2 j hlt;have hja:j<acc.length:=by rw [←HL.out];exact hlt
     obtain ⟨x',hx',hat⟩:=P0.out.hs.at (List.getElem?_eq_getElem hja);have hxx:x'=x:=by rw [hpx]at hx';cases hx';rfl
     subst hxx;have hcell:wr.cell? ⟨g,j,none⟩=some (.pointer x'):=by simp [World.cell?,hgg,hcx]
     have hmem:acc[j]∈acc:=List.getElem_mem hja
     have Z:=hdz (show aA wr acc[j] x'∧acc[j].size+sizes (acc.take j)≤sizes acc∧j+gk=l∧jL (acc.take j).reverse≤acc.length from ⟨hat,by
      have h5:=Bu acc (j+1);rw [List.take_succ_eq_append_getElem hja,mI]at h5;simp only [sizes]at h5;omega,hj,by have h5:=yw (acc.take j).reverse;rw [List.length_reverse,List.length_take]at h5;omega⟩)
     have HJ:=hdz hja;have q1:(j:Int)<(l:Int):=by omega
     have q2:decide ((j:Int)<(l:Int))=true:=by simpa using hlt
     have q3:decide (j<l)=true:=by simpa using hlt
     have q4:(0:Int)≤(j:Int):=by omega
     have P1:=hdz (P0.out.bt (bG (.cells #[.pointer x'] 113)));have v1:=P1.out.v.c0;have hnew:(wr.alloc (.cells #[.pointer x'] 113)).cell? ⟨wr.heap.size,0,none⟩=some (.pointer x'):=(bJ.at (W:=wr) (p:=x') rfl).c0;have LA:=hdz (Z.out.1.stay (bG (.cells #[.pointer x'] 113)));clear hgb hgg hpx hcx hx' hat hmem hj P0;go_wp2_with fail
     generalize wr.alloc (.cells #[.pointer x'] 113)=w5 at *;((with_reducible refine (eT mo (acc[j]'HJ.out) (mg (acc.take j).reverse) _ _ x' pa _ (by rw [xS,ow];have:=Z.out;have:=Q2.out;have:=HN.out;omega) P1.out.tr.mt (by have:=HN.out;omega) (by have:=HN.out;have:=Q2.out;have:=Z.out;omega) (by have:=HN.out;omega) (by have:=HN.out;have:=Q2.out;have:=Z.out;omega) LA.out P1.out.at_).mono ?_);rintro e w6 ⟨pm,rfl,ht,hm,hb⟩);have tr6:=P1.out.tr.turn hm hb ax;have v6:=P1.out.v.bt hb P1.out.tr.mt;have z6:=v6.z0;have y6:=v6.c0;have ef:jL (acc.take (j+1)).reverse=jL (acc.take j).reverse+aQ (acc[j]'HJ.out) (mg (acc.take j).reverse):=by rw [yG acc j HJ.out];rfl
     have eh:mg (acc.take (j+1)).reverse=bI (acc[j]'HJ.out) (mg (acc.take j).reverse):=by rw [yG acc j HJ.out];rfl
     have PN:=hdz (show Pl mo w a ba base acc pp (some ⟨g,0,none⟩) l (j+1) pm (c+(k1:Int)) (m+(k1:Int)) (w6.setCell ⟨ba,0,none⟩ (.pointer pm)) from
      ⟨v6.put pm,(P1.out.r.bt hb P1.out.tr.mt).set (by have:=P1.out.ga;omega) 0 _,(P1.out.row.bt hb P1.out.tr.mt).set P1.out.gb _,(P1.out.hs.bt hb P1.out.tr.mt).kp (bO.set v6 aj 0 _),by rw [eh];exact ht.kp (bO.set v6 aj 0 _),
       by rw [ef];have h5:=tr6.put v6 aj (by decide) (by have:=P1.out.own;have:=P1.out.ga;omega) 0 (.pointer pm);rw [show c+(k1:Int)+((jL (acc.take j).reverse+aQ (acc[j]'HJ.out) (mg (acc.take j).reverse):Nat):Int)=c+(k1:Int)+(jL (acc.take j).reverse:Nat)+(aQ (acc[j]'HJ.out) (mg (acc.take j).reverse):Nat) by omega,show m+(k1:Int)+((jL (acc.take j).reverse+aQ (acc[j]'HJ.out) (mg (acc.take j).reverse):Nat):Int)=m+(k1:Int)+(jL (acc.take j).reverse:Nat)+(aQ (acc[j]'HJ.out) (mg (acc.take j).reverse):Nat) by omega];exact h5,
       P1.out.own,P1.out.ga,P1.out.gb⟩)
     clear ht hm hb tr6 v6 ef eh v1 hnew P1 LA;have w1':IntKind.i64.wrap ((j:Int)+1)=(j:Int)+1:=by rw [IntKind.wrap_i64];have:=HL.out;have:=Q2.out;have:=HN.out;have:=Z.out;omega
     go_wp2_with fail
     go_roundg (l - 1 - j)
     case measure=>have:=Z.out;omega
     case rel=>exact ⟨j+1,pm,by first|rfl|(congr 1;unfold wrap64;have:=HL.out;have:=Q2.out;have:=HN.out;have:=Z.out;omega),by have:=Z.out;omega,PN.out⟩
    ·have hjl:j=l:=by omega
     subst hjl;have q1:¬(j:Int)<(j:Int):=by omega
     have v0:=P0.out.v.c0;have r0:=P0.out.r.c0;have z0:=P0.out.r.z0;clear hj hlt;go_wp2_with fail
     have h4:=HL.out;have h5:=P0.out.at_;have h6:=P0.out.tr;rw [h4,List.take_length,Q2.out.1]at h5 h6;rw [←Kd.uY]at h5;have hk:=h6.put P0.out.r aj (by decide) (by have:=P0.out.own;omega) 0 (.pointer pa);refine bodyPost_ret (v:=hp pa) (by simp [results,Tryz.results366,go_sem,r0]) rfl ⟨_,rfl,h5.kp (bO.set P0.out.r aj 0 _),?_,hk.bt⟩;have e1:c+((ks.vW:Nat):Int)=c+(k1:Int)+(jL ks.oO:Nat):=by rw [ks.sZ,Q2.out.2.1];omega
     have e2:m+((ks.vW:Nat):Int)=m+(k1:Int)+(jL ks.oO:Nat):=by rw [ks.sZ,Q2.out.2.1];omega
     rw [e1,e2];exact hk.mt
end Go.Proofs.YtmeodbjlmjpnbaaGreat.Pd
namespace Go.Proofs.YtmeodbjlmjpnbaaGreat.Pd
open Go.Sort Go.RowKit
def gP (mo:Option Nat)(c m:Int)(t:Lh)(is:Bool)(w:World)(e:Ending)(w':World):Prop:=∃p,e=.returned (.tuple #[hp p,.bool is])∧aA w' t p∧aW w' mo c m∧Bt mo w w'
theorem jb (mo:Option Nat)(c m:Int)(h:Lh)(p:Option Addr)(w:World)(hs:h.size<134217728)(hm:aW w mo c m)(h0:0≤c)(h1:c<576460752303423488)(h2:0≤m)(h3:m<576460752303423487)
  (hh:aA w h p):Calls Tryz.prog 364 #[hp p,aF mo] w (gP mo (c+h.oK) (m+h.oK) h.pop h.some w):=by
 cases h with
 | nil =>
  obtain rfl:=hh;have hb1:Below w.heap.size w ((w.alloc (.cells #[.pointer none] 113)).alloc (.cells #[.pointer none] 113)):=(bG _).alloc (by simp) _;have KK:=hdz (hm.stay hb1);have HB:=hdz (Bt.aV (mo:=mo) hb1);clear hm hb1 hs h0 h1 h2 h3;go_enter Tryz.func364,Tryz.ntmps364
  go_wp2_with fail
  exact bodyPost_ret (v := .tuple #[hp none,.bool false]) (by simp [results,Tryz.results364,go_sem]) rfl ⟨_,rfl,rfl,by simpa [Lh.oK] using KK.out,HB.out⟩
 | node x ks =>
  obtain ⟨b,kp,rfl,Iz,hk⟩:=hh;have K1:dL au mo w c m ((w.alloc (.cells #[.pointer (some ⟨b,0,none⟩)] 113)).alloc (.cells #[.pointer none] 113)):=((dL.refl hm).alloc _).alloc _;have e2:bJ ((w.alloc (.cells #[.pointer (some ⟨b,0,none⟩)] 113)).alloc (.cells #[.pointer none] 113)) (w.heap.size+1) none:=bJ.at (by simp);have e1:bJ ((w.alloc (.cells #[.pointer (some ⟨b,0,none⟩)] 113)).alloc (.cells #[.pointer none] 113)) w.heap.size (some ⟨b,0,none⟩):=bJ.alloc (bJ.at rfl) _;obtain ⟨n,hn⟩:=aU (ks.len);rw [←hn]at Iz;have HL:=hdz (af Iz (af hk hn));have HN:=hdz (show ks.size<134217728∧0≤c∧c<576460752303423488∧0≤m∧m<576460752303423487 from ⟨by simp only [Lh.size]at hs;omega,h0,h1,h2,h3⟩);have HE:=hdz (af e1 e2);have KK:=hdz K1;clear Iz hk hn hs h0 h1 h2 h3 K1 hm e1 e2;go_enter Tryz.func364,Tryz.ntmps364
  have c2:=(aT HL.out.1 KK.out.kp).c2;have c3:=(aT HL.out.1 KK.out.kp).c3;go_wp2_with fail
  generalize (w.alloc (.cells #[.pointer (some ⟨b,0,none⟩)] 113)).alloc (.cells #[.pointer none] 113)=w1 at *;obtain ⟨a,ha⟩:=aU (w.heap.size);rw [←ha]at HE ⊢;have HA:=hdz ha;clear ha;((with_reducible refine (BD mo c m ks kp n _ KK.out.mt HN.out.2.1 HN.out.2.2.1 HN.out.2.2.2.1 (by have:=HN.out;omega) (HL.out.2.1.kp KK.out.kp) HL.out.2.2 HN.out.1).mono ?_);rintro e w6 ⟨p6,rfl,Io,Iy,hb6⟩);have R6:=hdz (HE.out.2.bt hb6 KK.out.mt);have K6:=hdz (KK.out.turn Iy hb6 ax);have T6:=hdz Io;have r6:=R6.out.c0;have z6:=R6.out.z0;clear Io Iy hb6 c2 c3;go_wp2_with fail
  have hk:=(K6.out.put R6.out aj (by decide) (by rw [←HA.out];omega) 0 (.pointer p6));exact bodyPost_ret (v := .tuple #[hp p6,.bool true]) (by simp [results,Tryz.results364,go_sem,r6]) rfl ⟨_,rfl,T6.out.kp (bO.set R6.out aj 0 _),hk.mt,hk.bt⟩
end Go.Proofs.YtmeodbjlmjpnbaaGreat.Pd
namespace Go.Proofs.YtmeodbjlmjpnbaaGreat.Pd
open Go.Sort Go.RowKit
theorem nR {w:World}{q:Addr}{v:Value}(h:w.cell? q=some v)(o:Obj):(w.alloc o).cell? q=some v:=(((Below.refl w.heap.size w).alloc (Nat.le_refl _) o).cell (block_lt_of_cell h)).trans h
theorem oQ (xs:List (Int×Int))(k:Nat)(h:k<xs.length):dN .nil (xs.take (k+1))=dN .nil (xs.take k)+aQ (.one xs[k]) (fG (xs.take k)):=by
 rw [List.take_succ_eq_append_getElem h,kJ];rfl
theorem kY (xs:List (Int×Int))(k:Nat)(h:k<xs.length):fG (xs.take (k+1))=(fG (xs.take k)).insert xs[k]:=by
 rw [List.take_succ_eq_append_getElem h,lI]
theorem nC (xs:List (Int×Int))(h:xs.length<16777216):dN .nil xs<562949953421312:=by
 have h1:=nZ xs .nil;rw [show Lh.nil.size=0 from rfl]at h1;have h2:xs.length*(0+xs.length+1)≤16777216*16777216:=Nat.mul_le_mul (by omega) (by omega);omega
theorem kC (mo:Option Nat)(c m:Int)(A:Option Addr)(xs:List (Int×Int))(cap:Nat)(w:World)(hm:aW w mo c m)(h0:0≤c)(h1:c<288230376151711744)(h2:0≤m)(h3:m<288230376151711744)(hr:Row w A xs)(hn:xs.length<16777216)
  (hne:∀b,mo=some b → ∀q,A=some q→q.block≠b) :
  Calls Tryz.prog 45 #[aF mo,.slice A xs.length cap] w (bU mo (c+dN .nil xs) (m+(xs.length:Nat)+dN .nil xs) (fG xs) w):=by
 have K1:dL au mo w c m ((w.alloc (.cells #[.pointer none] 113)).alloc (.cells #[.pointer none] 113)):=((dL.refl hm).alloc _).alloc _
 have e1:((w.alloc (.cells #[.pointer none] 113)).alloc (.cells #[.pointer none] 113)).heap[w.heap.size]?=some (.cells #[.pointer none] 113 (0,0)):=by
  rw [alloc_old _ (by simp only [World.size_alloc];omega)];exact aJ rfl
 have e2:((w.alloc (.cells #[.pointer none] 113)).alloc (.cells #[.pointer none] 113)).heap[w.heap.size+1]?=some (.cells #[.pointer none] 113 (0,0)):=aJ (by simp);have HR:=hdz (af hr hne);have HN:=hdz (af h0 (af h1 (af h2 h3)));have HE:=hdz (af e1 e2);have KK:=hdz K1;obtain ⟨n,hnn⟩:=aU (xs.length);rw [←hnn]at hn ⊢;have HX:=hdz hnn;clear hr hne h0 h1 h2 h3 K1 hm e1 e2 hnn;go_enter Tryz.func45,Tryz.ntmps45
 go_wp2_with fail
 generalize (w.alloc (.cells #[.pointer none] 113)).alloc (.cells #[.pointer none] 113)=w1 at *;obtain ⟨a,ha⟩:=aU (w.heap.size);rw [←ha]at HE ⊢;have HA:=hdz ha;clear ha;go_loopg [10] n (fun k i wr => ∃(j:Nat) (p:Option Addr),i=.int .i64 (j:Int)∧j+k=n∧wr.heap[a]?=some (.cells #[.pointer none] 113 (0,0))∧wr.heap[a+1]?=some (.cells #[.pointer p] 113 (0,0))∧aA wr (fG (xs.take j)) p∧dL au mo w (c+dN .nil (xs.take j)) (m+(j:Nat)+dN .nil (xs.take j)) wr)
 case atStart=>exact ⟨0,none,rfl,by omega,HE.out.1,HE.out.2,rfl,by simpa [dN] using KK.out⟩
 case round =>
  obtain ⟨j,p,rfl,hj,hra,hrb,ht,hk⟩:=hrel;by_cases hlt:j<n
  ·have hjx:j<xs.length:=by rw [←HX.out];exact hlt
   obtain ⟨b,o,rfl,hc⟩:=HR.out.1 (by omega);have hx:=qm hc j hjx;have hne:=fun bb (eb:mo=some bb)=>HR.out.2 bb eb _ rfl;have x0:=hk.bt.cell hx.1 hne;have x1:=hk.bt.cell hx.2 hne;have hp:=nC (xs.take j) (by rw [List.length_take];omega);have hsz:(fG (xs.take j)).size=j:=by rw [kW,List.length_take];omega
   have eP:=oQ xs j hjx;have eO:=kY xs j hjx;generalize xs[j]=x at *;obtain ⟨y1,y2⟩:=x;have q1:(j:Int)<(n:Int):=by omega
   have q2:(0:Int)≤(j:Int):=by omega
   have h1c:wr.cell? ⟨a+1,0,none⟩=some (.pointer p):=by simp [World.cell?,hrb]
   have h2c:(wr.alloc (.cells #[.int .i64 y1,.int .i64 y2] 29)).cell? ⟨a+1,0,none⟩=some (.pointer p):=nR h1c _;have X:=hdz (af hra (af hrb (af ht (af hk (af eP (af eO (af hp (af hsz hj))))))));clear hra hrb ht hk eP eO hp hsz hj hc hx hne hjx;go_wp2_with fail
   clear h1c h2c x0 x1;((with_reducible refine (di mo _ _ (fG (xs.take j)) (y1,y2) p _ (by rw [X.out.2.2.2.2.2.2.2.1];omega) (X.out.2.2.2.1.alloc _).mt (by have:=HN.out;omega) (by have:=HN.out;have:=X.out.2.2.2.2.2.2.1;omega) (by have:=HN.out;omega) (by have:=HN.out;have:=X.out.2.2.2.2.2.2.1;omega) (X.out.2.2.1.stay (bG _))).mono ?_);rintro e w2 ⟨p2,rfl,ht2,hm2,hb2⟩);obtain ⟨hra,hrb,ht,hk,eP,eO,hp,hsz,hj⟩:=X.out;have hk2:=(hk.alloc (.cells #[.int .i64 y1,.int .i64 y2] 29)).turn hm2 hb2 ax;have ra2:=hb2.row (hk.alloc _).mt ((alloc_old (.cells #[.int .i64 y1,.int .i64 y2] 29) (lt_of_heap hra)).trans hra) (by decide);have rb2:=hb2.row (hk.alloc _).mt ((alloc_old (.cells #[.int .i64 y1,.int .i64 y2] 29) (lt_of_heap hrb)).trans hrb) (by decide);have e1:c+((dN .nil (xs.take (j+1)):Nat):Int)=c+(dN .nil (xs.take j):Nat)+(aQ (.one (y1,y2)) (fG (xs.take j)):Nat):=by rw [eP];omega
   have e2:m+((j+1:Nat):Int)+(dN .nil (xs.take (j+1)):Nat)=m+(j:Nat)+(dN .nil (xs.take j):Nat)+1+(aQ (.one (y1,y2)) (fG (xs.take j)):Nat):=by rw [eP];omega
   rw [←e1,←e2]at hk2;rw [←eO]at ht2;have z2:w2.frozen? ⟨a+1,0,none⟩=false:=by simp [World.frozen?,rb2]
   have r2:w2.cell? ⟨a+1,0,none⟩=some (.pointer p):=by simp [World.cell?,rb2]
   have Y:=hdz (af (show (w2.setCell ⟨a+1,0,none⟩ (.pointer p2)).heap[a]?=_ from (aH _ _ (by omega)).trans ra2) (af (show (w2.setCell ⟨a+1,0,none⟩ (.pointer p2)).heap[a+1]?=some (.cells #[.pointer p2] 113 (0,0)) from heap_put (j:=0) rb2 (.pointer p2)) (af (ht2.kp (bO.set rb2 aj 0 (.pointer p2))) (hk2.put rb2 aj (by decide) (by rw [←HA.out];omega) 0 (.pointer p2)))));clear hra hrb ht hk eP eO hp hsz hk2 ra2 rb2 e1 e2 ht2 hm2 hb2 X;go_wp2_with fail
   go_roundg (n - 1 - j)
   case measure=>omega
   case rel=>exact ⟨j+1,p2,by congr 1,by omega,Y.out.1,Y.out.2.1,Y.out.2.2.1,Y.out.2.2.2⟩
  ·have hjn:j=n:=by omega
   subst hjn;rw [HX.out,List.take_length]at ht hk;rw [←HX.out]at hk;have h1c:wr.cell? ⟨a+1,0,none⟩=some (.pointer p):=by simp [World.cell?,hrb]
   have r6:wr.cell? ⟨a,0,none⟩=some (.pointer none):=by simp [World.cell?,hra]
   have z6:wr.frozen? ⟨a,0,none⟩=false:=by simp [World.frozen?,hra]
   have hk2:=hk.put hra aj (by decide) (by rw [←HA.out];omega) 0 (.pointer p);have X:=hdz (af (ht.kp (bO.set hra aj 0 (.pointer p))) hk2);clear hra hrb ht hk hk2 hlt hj;go_wp2_with fail
   exact bodyPost_ret (v:=hp p) (by simp [results,Tryz.results45,go_sem,r6]) rfl ⟨_,rfl,X.out.1,X.out.2.mt,X.out.2.bt⟩
end Go.Proofs.YtmeodbjlmjpnbaaGreat.Pd
namespace Go.Proofs.YtmeodbjlmjpnbaaGreat.Pd
open Go.Sort Go.RowKit
theorem ic {h:Lh}(hg:h.good):h.min=(hd (dw h.all),decide (0<(dw h.all).length)):=by
 cases h with
 | nil=>rw [show (Lh.nil).all=[] from rfl,kr];rfl
 | node x ks=>rw [jK (h := .node x ks) hg.ok rfl];rfl
theorem jM {h:Lh}(hg:h.good):h.some=decide (0<(dw h.all).length):=(show h.some=h.min.2 by exact (jX h).symm).trans (congrArg Prod.snd (ic hg))
theorem dJ (h:Lh):(dw h.all).length=h.size:=by rw [kG,Lh.aD]
theorem Ho (h:Lh)(x:Int×Int)(q:Option Addr)(w:World)(hs:h.size<16777216)(hh:aA w h q) :
  Calls Tryz.prog 273 #[.agg #[.pointer q],.pointer none,el x] w fun e w' => ∃q':Option Addr,e=.returned (.iface 181 (.agg #[.pointer q']))∧aA w' (h.insert x) q'∧Below w.heap.size w w':=by
 obtain ⟨x1,x2⟩:=x;have hm:∀(k:Nat) (w:World),(method (k+1) 113 (.agg #[.pointer q]) "Insert").run Tryz.prog w=.ok (92,.agg #[.pointer q]) w:=fun _ _=>by kernel_rfl
 have hb1:Below w.heap.size w ((w.alloc (.cells #[.pointer q] 181)).alloc (.cells #[.int .i64 x1,.int .i64 x2] 29)):=(bG _).alloc (by simp) _;have H:=hdz (af (hh.stay hb1) hb1);have HS:=hdz hs;clear hh hb1 hs;go_enter Tryz.func273,Tryz.ntmps273
 go_wp2_with fail
 refine (di none 0 0 h (x1,x2) q _ (by have:=HS.out;omega) trivial (by decide) (by decide) (by decide) (by decide) H.out.1).mono ?_;rintro e w1 ⟨q',rfl,ht, -,hb⟩;have Y:=hdz (af ht (H.out.2.trans (hb.gK.mono H.out.2.size)));clear ht hb;go_wp2_with fail
 refine bodyPost_ret (v := .iface 181 (.agg #[.pointer q'])) (by simp [results,Tryz.results273,go_sem]) rfl ⟨q',rfl,Y.out.1,Y.out.2⟩
theorem wN (h:Lh)(q:Option Addr)(w:World)(hg:h.good)(hh:aA w h q) :
  Calls Tryz.prog 275 #[.agg #[.pointer q],.pointer none] w fun e w'=>e=.returned (.tuple #[el (hd (dw h.all)),.bool (decide (0<(dw h.all).length))])∧Below w.heap.size w w':=by
 have hm:∀(k:Nat) (w:World),(method (k+1) 113 (.agg #[.pointer q]) "Min").run Tryz.prog w=.ok (363,.agg #[.pointer q]) w:=fun _ _=>by kernel_rfl
 have hb1:Below w.heap.size w ((w.alloc (.cells #[.pointer q] 181)).alloc (.cells #[.int .i64 0,.int .i64 0] 29)):=(bG _).alloc (by simp) _
 have hv:aB ((w.alloc (.cells #[.pointer q] 181)).alloc (.cells #[.int .i64 0,.int .i64 0] 29)) (w.heap.size+1) 29 (.int .i64 0) (.int .i64 0):=by
  have:=aB.new (w.alloc (.cells #[.pointer q] 181)) 29 (.int .i64 0) (.int .i64 0);simpa only [World.size_alloc] using this
 have H:=hdz (af (hh.stay hb1) (af hb1 hv));obtain ⟨x,hx⟩:=aU (h.min);obtain ⟨⟨x1,x2⟩,z⟩:=x;have hx2:=hx.trans (ic hg);rw [show hd (dw h.all)=(x1,x2) from (congrArg Prod.fst hx2).symm,show decide (0<(dw h.all).length)=z from (congrArg Prod.snd hx2).symm];have HM:fH h=.tuple #[.agg #[.int .i64 x1,.int .i64 x2],.bool z]:=by unfold fH;rw [←hx]
 have HN:=hdz HM;clear hh hb1 hg hx hx2 HM hv;go_enter Tryz.func275,Tryz.ntmps275
 go_wp2_with fail
 refine (iX h q (.pointer none) _ H.out.1).mono ?_;rintro e w1 ⟨he,hb⟩;rw [HN.out]at he;subst he;have hv:=H.out.2.2.stay hb;have c0:=hv.c0;have c1:=hv.c1;have z0:=hv.z0;have z1:=hv.z1;have hs:=hv.set (.int .i64 x1) (.int .i64 x2);have k0:=hs.c0;have k1:=hs.c1;have Y:=hdz (H.out.2.1.trans (hb.mono H.out.2.1.size));clear hb hv hs;go_wp2_with fail
 refine bodyPost_ret (v := .tuple #[.agg #[.int .i64 x1,.int .i64 x2],.bool z]) (by simp [results,Tryz.results275,go_sem,k0,k1]) rfl ⟨rfl,(Y.out.setCell (by simp) _).setCell (by simp) _⟩
theorem xO (h:Lh)(q:Option Addr)(w:World)(hs:h.size<16777216)(hh:aA w h q) :
  Calls Tryz.prog 276 #[.agg #[.pointer q],.pointer none] w fun e w' => ∃q':Option Addr,e=.returned (.tuple #[.iface 181 (.agg #[.pointer q']),.bool h.some])∧aA w' h.pop q'∧Below w.heap.size w w':=by
 have hm:∀(k:Nat) (w:World),(method (k+1) 113 (.agg #[.pointer q]) "Pop").run Tryz.prog w=.ok (364,.agg #[.pointer q]) w:=fun _ _=>by kernel_rfl
 have hb1:Below w.heap.size w (w.alloc (.cells #[.pointer q] 181)):=bG _;have H:=hdz (af (hh.stay hb1) hb1);have HS:=hdz hs;obtain ⟨z,hz⟩:=aU (h.some);rw [←hz];have HZ:=hdz hz;clear hh hb1 hs hz;go_enter Tryz.func276,Tryz.ntmps276
 go_wp2_with fail
 refine (jb none 0 0 h q _ (by have:=HS.out;omega) trivial (by decide) (by decide) (by decide) (by decide) H.out.1).mono ?_;rintro e w1 ⟨q',he,ht, -,hb⟩;rw [←HZ.out]at he;subst he;have Y:=hdz (af ht trivial);have hT:=H.out.2.trans (hb.gK.mono H.out.2.size);have HT:=hdz hT;clear ht hb hT;go_wp2_with fail
 refine bodyPost_ret (v := .tuple #[.iface 181 (.agg #[.pointer q']),.bool z]) (by simp [results,Tryz.results276,go_sem]) rfl ⟨q',rfl,Y.out.1.stay (bG _),HT.out.alloc HT.out.size _⟩
theorem qV (h:Lh)(q:Option Addr)(w:World)(hh:aA w h q) :
  Calls Tryz.prog 278 #[.agg #[.pointer q]] w fun e w'=>e=.returned (.int .i64 (h.size:Nat))∧Below w.heap.size w w':=by
 have hm:∀(k:Nat) (w:World),(method (k+1) 113 (.agg #[.pointer q]) "Size").run Tryz.prog w=.ok (365,.agg #[.pointer q]) w:=fun _ _=>by kernel_rfl
 have hb1:Below w.heap.size w (w.alloc (.cells #[.pointer q] 181)):=bG _;have H:=hdz (af (hh.stay hb1) hb1);obtain ⟨z,hz⟩:∃z:Int,z=(h.size:Nat):=⟨_,rfl⟩;rw [←hz];have HZ:=hdz hz;clear hh hb1 hz;go_enter Tryz.func278,Tryz.ntmps278
 go_wp2_with fail
 refine (eF h q _ H.out.1).mono ?_;rintro e w1 ⟨he,hb⟩;rw [←HZ.out]at he;subst he;have Y:=hdz (H.out.2.trans (hb.mono H.out.2.size));clear hb;go_wp2_with fail
 refine bodyPost_ret (v := .int .i64 z) (by simp [results,Tryz.results278,go_sem]) rfl ⟨rfl,Y.out⟩
theorem qM (v:Value)(w:World):Calls Tryz.prog 37 #[.agg #[.iface 181 v]] w fun e w'=>e=.returned (.int .i64 3)∧Below w.heap.size w w':=by
 have hb1:Below w.heap.size w (w.alloc (.cells #[.iface 181 v] 27)):=bG _;have h1:∀(w:World),(Instr.typeAssert (.iface 181 v) 25 177 true).run Tryz.prog w=.ok (.tuple #[.agg #[.pointer none],.bool false]) w:=fun _=>by kernel_rfl
 have h2:∀(w:World),(Instr.typeAssert (.iface 181 v) 25 179 true).run Tryz.prog w=.ok (.tuple #[.agg #[.pointer none,.int .i64 0],.bool false]) w:=fun _=>by kernel_rfl
 have h3:∀(w:World),(Instr.typeAssert (.iface 181 v) 25 181 true).run Tryz.prog w=.ok (.tuple #[v,.bool true]) w:=fun _=>by kernel_rfl
 go_enter Tryz.func37,Tryz.ntmps37
 go_wp2_with fail
 refine bodyPost_ret (v := .int .i64 3) (by simp [results,Tryz.results37,go_sem]) rfl ⟨rfl,hb1⟩
theorem EI (q:Option Addr)(w:World):Calls Tryz.prog 44 #[.agg #[.pointer q]] w fun e w'=>e=.returned (.agg #[.iface 181 (.agg #[.pointer q])])∧Below w.heap.size w w':=by
 have hb1:Below w.heap.size w ((w.alloc (.cells #[.pointer q] 113)).alloc (.cells #[.iface 181 (.agg #[.pointer q])] 27)):=(bG _).alloc (by simp) _;go_enter Tryz.func44,Tryz.ntmps44
 go_wp2_with fail
 refine bodyPost_ret (v := .agg #[.iface 181 (.agg #[.pointer q])]) (by simp [results,Tryz.results44,go_sem]) rfl ⟨rfl,hb1⟩
theorem ET (A:Option Addr)(xs:List (Int×Int))(cap:Nat)(w:World)(hr:Row w A xs)(hn:xs.length<16777216) :
  Calls Tryz.prog 18 #[.pointer none,.int .i64 3,.slice A xs.length cap] w fun e w' => ∃q':Option Addr,e=.returned (.tuple #[.agg #[.iface 181 (.agg #[.pointer q'])],.int .i64 0])∧aA w' (fG xs) q'∧Below w.heap.size w w':=by
 have hb1:Below w.heap.size w (w.alloc (.cells #[.nilIface] 27)):=bG _;have H:=hdz (af (hr.below hb1) hb1);obtain ⟨L,hL⟩:=aU (xs.length);have HL:=hdz (af hL (hL▸hn:L<16777216));rw [←hL];clear hr hb1 hL hn;go_enter Tryz.func18,Tryz.ntmps18
 go_wp2_with fail
 have hL:=HL.out.1;subst hL;refine (kC none 0 0 A xs cap _ trivial (by decide) (by decide) (by decide) (by decide) H.out.1 HL.out.2 (fun _ e=>by cases e)).mono ?_;rintro e w1 ⟨q',rfl,ht, -,hb⟩;have hB:=hb.gK;have hF:w1.heap[w.heap.size]?=some (.cells #[.nilIface] 27 (0,0)):=(hB.block _ (by simp)).trans (heap_alloc_new w _);have Y:=hdz (af ht (af (H.out.2.trans (hB.mono H.out.2.size)) hF));clear hB hF;clear ht hb;go_wp2_with fail
 refine (EI q' _).mono ?_;rintro e w2 ⟨rfl,hb2⟩;have hF:=(hb2.block _ (lt_of_heap Y.out.2.2)).trans Y.out.2.2;have k0:=one_cell hF;have z0:=iQ hF;have Z:=hdz (af (Y.out.1.stay hb2) (af (Y.out.2.1.trans (hb2.mono Y.out.2.1.size)) hF));clear hb2 hF;have k1:=one_cell (gD Z.out.2.2 (.iface 181 (.agg #[.pointer q'])));go_wp2_with fail
 refine bodyPost_ret (v := .tuple #[.agg #[.iface 181 (.agg #[.pointer q'])],.int .i64 0]) (by simp [results,Tryz.results18,go_sem,k1]) rfl ⟨q',rfl,Z.out.1.kp (bO.set Z.out.2.2 (by unfold au;decide) 0 _),Z.out.2.1.setCell (Nat.le_refl _) _⟩
theorem fC {W W':World}(h:bO NH W W'):bO au W W':=fun b cs t ht=>h b cs t (by unfold au at ht;rcases ht with rfl|rfl<;>decide)
def At (W:World)(v:Value)(l:List (Int×Int)):Prop:=∃q:Option Addr,v=.agg #[.pointer q] ∧ ∃h:Lh,aA W h q∧h.good∧dw h.all=l
theorem mr:iT 3 181 273 274 275 276 278 At where
 mN:=fun _ _ _=>by kernel_rfl
 mP:=fun _ _ _=>by kernel_rfl
 mS:=fun _ _ _=>by kernel_rfl
 cN:=fun _ _=>by kernel_rfl
 cP:=fun _ _=>by kernel_rfl
 cS:=fun _ _=>by kernel_rfl
 stay:=fun ha hb=>by
  obtain ⟨q,rfl,h,hh,hg,rfl⟩:=ha;exact ⟨q,rfl,h,hh.stay hb,hg,rfl⟩
 keep:=fun ha hk hs=>by
  obtain ⟨q,rfl,h,hh,hg,rfl⟩:=ha;exact ⟨q,rfl,h,hh.kp (fC hk),hg,rfl⟩
 min:=fun v l w ha=>by
  obtain ⟨q,rfl,h,hh,hg,rfl⟩:=ha;exact wN h q w hg hh
 pop:=fun v l w ha hn=>by
  obtain ⟨q,rfl,h,hh,hg,rfl⟩:=ha;rw [dJ]at hn;exact (xO h q w hn hh).mono fun e w' ⟨q',he,ht,hb⟩=>⟨_,by rw [←jM hg];exact he,⟨q',rfl,_,ht,jE hg,kS hg.ok⟩,hb⟩
 size:=fun v l w ha=>by
  obtain ⟨q,rfl,h,hh,hg,rfl⟩:=ha;rw [dJ];exact qV h q w hh
 kind:=fun v w=>qM v w
 of:=fun A xs cap w hr hn hf=>(ET A xs cap w hr hn).mono fun e w' ⟨q',he,ht,hb⟩=>⟨_,he,⟨q',rfl,_,ht,kT hf,nD xs⟩,hb⟩
end Go.Proofs.YtmeodbjlmjpnbaaGreat.Pd
