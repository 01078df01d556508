/- Skew binomial heaps in memory: a list of trees' addresses; they stay where no block of the trees' types nor of the list's turns. No conditions beyond what each theorem says. -/
import Derived.Test.YtmeodbjlmjpnbaaGreatPua
import Derived.Deep.LoopGhost
import Derived.Deep.RegionHeld3
import Derived.Deep.DrawnRows
import Derived.Defers
import Derived.Recover
set_option maxRecDepth 100000
set_option maxHeartbeats 4000000
namespace Go.Proofs.YtmeodbjlmjpnbaaGreat.U.Hp
open Go.Sort Go.RowKit Go.Proofs.YtmeodbjlmjpnbaaGreat.U.Gn
structure HP where
 q:Option Addr
 n:Int
abbrev hp (p:HP):Value := .agg #[.pointer p.q,.int .i64 p.n]
def au (t:TypeId):Prop:=dV t∨t=318
abbrev Kp (W W':World):Prop:=bO au W W'
theorem ax:¬au 89 := by unfold au dV;decide
theorem iN:¬au 29 := by unfold au dV;decide
theorem aj:¬au 257 := by unfold au dV;decide
theorem dh:¬au 255 := by unfold au dV;decide
section
variable {W W':World}
theorem Kp.tree (h:Kp W W'):Go.Proofs.YtmeodbjlmjpnbaaGreat.U.Kp W W':=fun k cs t ht e=>h k cs t (.inl ht) e
theorem mY (h:Kp W W'):∀{m m':Nat} {p:Option Addr} {xs:List (Option Addr)},W.heap.size≤W'.heap.size→m≤W.heap.size→m'=W'.heap.size→Chain Lt.one 318 m W p xs→Chain Lt.one 318 m' W' p xs
 | _,_,_,[],_,_,_,hl=>hl
 | _,_,_,_::_,hs,hm,he,⟨b,q,hp,hb,hv,hr⟩=>⟨b,q,hp,by omega,h _ _ _ (.inr rfl) hv,mY h hs hm he hr⟩
def aS (W:World):List ai→List (Option Addr)→Prop
 | [],ps=>ps=[]
 | t::ts,ps => ∃p ps',ps=p::ps'∧gQ W p (some t)∧aS W ts ps'
theorem aS.kp (h:Kp W W'):∀{ts:List ai} {ps:List (Option Addr)},aS W ts ps→aS W' ts ps
 | [],_,hp=>hp
 | _::_,_,⟨p,ps',e,h1,h2⟩=>⟨p,ps',e,h1.kp h.tree,aS.kp h h2⟩
theorem aS.length:∀{ts:List ai} {ps:List (Option Addr)},aS W ts ps→ps.length=ts.length
 | [],_,h=>by rw [h];rfl
 | _::_,_,⟨_,_,e,_,h⟩=>by rw [e,List.length_cons,h.length,List.length_cons]
theorem aS.at:∀{ts:List ai} {ps:List (Option Addr)} {j:Nat} {t:ai},aS W ts ps→ts[j]?=some t → ∃p,ps[j]?=some p∧gQ W p (some t)
 | [],_,_,_,_,h=>by simp at h
 | u::_,_,0,t,⟨p,ps',e,h1,_⟩,h=>by
  have:u=t:=by simpa using h
  subst this;subst e;exact ⟨p,rfl,h1⟩
 | _::_,_,j+1,t,⟨p,ps',e,_,h2⟩,h=>by
  subst e;obtain ⟨q,hq,ht⟩:=aS.at (j:=j) h2 (by simpa using h);exact ⟨q,by simpa using hq,ht⟩
theorem aS.append:∀{ts us:List ai} {ps qs:List (Option Addr)},aS W ts ps→aS W us qs→aS W (ts++us) (ps++qs)
 | [],_,_,_,h,k=>by rw [h];exact k
 | _::_,_,_,_,⟨p,ps',e,h1,h2⟩,k=>by rw [e];exact ⟨p,ps'++_,rfl,h1,aS.append h2 k⟩
theorem aS.one {t:ai}{p:Option Addr}(h:gQ W p (some t)):aS W [t] [p]:=⟨p,[],rfl,h,rfl⟩
theorem aS.reverse:∀{ts:List ai} {ps:List (Option Addr)},aS W ts ps→aS W ts.reverse ps.reverse
 | [],_,h=>by rw [h];rfl
 | t::ts,_,⟨p,ps',e,h1,h2⟩=>by
  rw [e,List.reverse_cons,List.reverse_cons];exact aS.append (aS.reverse h2) (aS.one h1)
theorem aS.take:∀{ts:List ai} {ps:List (Option Addr)} (k:Nat),aS W ts ps→aS W (ts.take k) (ps.take k)
 | [],_,k,h=>by rw [h];simp [aS]
 | _::_,_,0,_=>by simp [aS]
 | _::_,_,k+1,⟨p,ps',e,h1,h2⟩=>by rw [e];exact ⟨p,ps'.take k,rfl,h1,aS.take k h2⟩
theorem aS.drop:∀{ts:List ai} {ps:List (Option Addr)} (k:Nat),aS W ts ps→aS W (ts.drop k) (ps.drop k)
 | [],_,k,h=>by rw [h];simp [aS]
 | _::_,_,0,h=>h
 | _::_,_,k+1,⟨p,ps',e,h1,h2⟩=>by rw [e];exact aS.drop k h2
theorem aS.tail {ts:List ai}{ps:List (Option Addr)}(h:aS W ts ps):aS W ts.tail ps.tail:=by
 have:=h.drop 1;rwa [List.drop_one,List.drop_one]at this
theorem iG.ts:∀{ks:ay} {ps:List (Option Addr)},iG W ks ps→aS W ks.list ps
 | .nil,_,h=>h
 | .cons _ _ _ _,_,⟨_,ps',e,hn,h⟩=>⟨_,ps',e,⟨_,rfl,hn⟩,iG.ts h⟩
def aA (W:World)(t:Lh)(p:HP):Prop:=∃ps,Ch Lt.one 318 W p.q ps∧aS W t.ts ps∧p.n=(t.ts.length:Nat)∧t.size<268435456∧t.ok
theorem aA.fQ {t:Lh}{p:HP}(hn:aA W t p)(h:Kp W W')(hs:W.heap.size≤W'.heap.size):aA W' t p:=by
 obtain ⟨ps,h1,h2,h3⟩:=hn;exact ⟨ps,mY h hs (Nat.le_refl _) rfl h1,h2.kp h,h3⟩
theorem aA.stay {t:Lh}{p:HP}(hn:aA W t p)(h:Below W.heap.size W W'):aA W' t p:=hn.fQ (bO.below h) h.size
theorem aA.small {t:Lh}{p:HP}(hn:aA W t p):t.size<268435456:=by obtain ⟨_,_,_,_,h,_⟩:=hn;exact h
theorem aA.right {t:Lh}{p:HP}(hn:aA W t p):t.ok:=by obtain ⟨_,_,_,_,_,h⟩:=hn;exact h
theorem aA.len {t:Lh}{p:HP}(hn:aA W t p):t.ts.length<268435456:=by have:=hn.small;have:=dX t;omega
theorem aA.list {t:Lh}{p:HP}(hn:aA W t p):∃(ps:List (Option Addr)) (n:Nat),p.n=(n:Int)∧n=t.ts.length∧Lt.LL W p.q n ps∧aS W t.ts ps:=by
 have hl:=hn.len;obtain ⟨ps,h1,h2,h3,h4,h5⟩:=hn;exact ⟨ps,t.ts.length,h3,rfl,⟨h1,h2.length.symm,by omega⟩,h2⟩
theorem aA.of {ts:List ai}{q:Option Addr}{n:Nat}{ps:List (Option Addr)}(hl:Lt.LL W q n ps)(ht:aS W ts ps)(hs:ah ts<268435456)(hk:fZ ts):aA W ⟨ts⟩ ⟨q,(n:Int)⟩ :=
 ⟨ps,hl.1,ht,by show (n:Int)=_;rw [hl.2.1,ht.length],hs,hk⟩
theorem aA.nil (W:World):aA W .nil ⟨none,0⟩:=⟨[],Ch.none W,rfl,rfl,by decide,mF⟩
theorem aA.no {p:HP}(h:aA W .nil p):p=⟨none,0⟩:=by
 obtain ⟨q,n⟩:=p;obtain ⟨ps,h1,h2,h3, -⟩:=h;obtain rfl:ps=[]:=h2;have h4:q=none:=h1;have h5:n=0:=h3;rw [h4,h5]
end
def bU (mo:Option Nat)(c m:Int)(t:Lh)(w:World)(e:Ending)(w':World):Prop:=∃p:HP,e=.returned (.agg #[.pointer p.q,.int .i64 p.n])∧aA w' t p∧aW w' mo c m∧Bt mo w w'
section
variable {W W':World}{mo:Option Nat}{c m:Int}
theorem Kp.bt (hb:Bt mo W W')(hm:aW W mo c m):Kp W W':=hb.oG hm ax
theorem aA.bt {t:Lh}{p:HP}(h:aA W t p)(hb:Bt mo W W')(hm:aW W mo c m):aA W' t p:=h.fQ (hb.oG hm ax) hb.size
theorem aS.bt {ts:List ai}{ps:List (Option Addr)}(h:aS W ts ps)(hb:Bt mo W W')(hm:aW W mo c m):aS W' ts ps:=h.kp (hb.oG hm ax)
end
end Go.Proofs.YtmeodbjlmjpnbaaGreat.U.Hp
namespace Go.Proofs.YtmeodbjlmjpnbaaGreat.U.Hp
open Go.Sort Go.RowKit Go.Proofs.YtmeodbjlmjpnbaaGreat.U.Gn
section
variable {W W':World}{mo:Option Nat}{c m:Int}{b:Nat}{t:TypeId}{x y:Value}
theorem Kp.set2 (h:aB W b t x y)(ht:¬au t)(u v:Value):Kp W ((W.setCell ⟨b,0,none⟩ u).setCell ⟨b,1,none⟩ v):=(bO.set h ht 0 u).trans (bO.set (h.set0 u) ht 1 v)
theorem iV (W:World)(b:Nat)(u v:Value):((W.setCell ⟨b,0,none⟩ u).setCell ⟨b,1,none⟩ v).heap.size=W.heap.size:=by simp [World.setCell]
theorem aA.set2 {l:Lh}{p:HP}(hl:aA W l p)(h:aB W b t x y)(ht:¬au t)(u v:Value):aA ((W.setCell ⟨b,0,none⟩ u).setCell ⟨b,1,none⟩ v) l p:=hl.fQ (Kp.set2 h ht u v) (by rw [iV];exact Nat.le_refl _)
theorem aS.set2 {ts:List ai}{ps:List (Option Addr)}(hl:aS W ts ps)(h:aB W b t x y)(ht:¬au t)(u v:Value):aS ((W.setCell ⟨b,0,none⟩ u).setCell ⟨b,1,none⟩ v) ts ps:=hl.kp (Kp.set2 h ht u v)
theorem qf {q:Option Addr}{n:Nat}{ps:List (Option Addr)}(hl:Lt.LL W q n ps)(h:aB W b t x y)(ht:¬au t)(u v:Value):Lt.LL ((W.setCell ⟨b,0,none⟩ u).setCell ⟨b,1,none⟩ v) q n ps:=⟨mY (Kp.set2 h ht u v) (by rw [iV];exact Nat.le_refl _) (Nat.le_refl _) rfl hl.1,hl.2⟩
end
theorem dU {t:ai}{ts:List ai}(h:fZ (t::ts)):fZ ts:=⟨fun u hu=>h.hok u (List.mem_cons_of_mem _ hu),fun u hu=>h.sk u (List.mem_cons_of_mem _ hu),iy h.up.2⟩
abbrev rises (l:List ai):Prop:=l.Pairwise (fun a b=>a.rank<b.rank)
theorem up_sub:∀{us ts:List ai},upto ts→us.Sublist ts→upto us
 | [],_,_,_=>trivial
 | u::us,[],_,h=>by cases h
 | u::us,t::ts,⟨h1,h2⟩,h=>by
  cases h with
  | cons _ h=>exact iy (h2.sublist h)
  | cons_cons _ h=>exact ⟨fun v hv=>h1 v (h.subset hv),h2.sublist h⟩
theorem jw {us ts:List ai}(h:fZ ts)(hs:us.Sublist ts):fZ us:=⟨fun u hu=>h.hok u (hs.subset hu),fun u hu=>h.sk u (hs.subset hu),up_sub h.up hs⟩
theorem bS (t:ai)(ts:List ai)(p:HP)(w:World)(h:aA w ⟨t::ts⟩ p):Calls Tryz.prog 339 #[hp p] w fun e w' => ∃p':HP,e=.returned (.agg #[.pointer p'.q,.int .i64 p'.n])∧aA w' ⟨ts⟩ p'∧Below w.heap.size w w':=by
 have hs:=h.small;obtain ⟨ps,n,hn,hnl,hl,ht⟩:=h.list;obtain ⟨q,pn⟩:=p;change pn=(n:Int) at hn;subst hn;have hb1:Below w.heap.size w ((w.alloc (.cells #[.pointer q,.int .i64 (n:Int)] 257)).alloc (.cells #[.pointer none,.int .i64 0] 257)):=((Below.refl _ w).alloc (Nat.le_refl _) _).alloc (by simp) _;have bR:=aB.new (w.alloc (.cells #[.pointer q,.int .i64 (n:Int)] 257)) 257 (.pointer none) (.int .i64 0);simp only [World.size_alloc]at bR;have H:=hdz (af (hl.stay hb1) (af (ht.kp (bO.below hb1)) (af hb1 (af bR (af hs h.right)))));clear h hl ht hb1 bR hs hnl;go_enter Tryz.func339,Tryz.ntmps339
 go_wp2_with fail
 ((with_reducible refine (Lt.oC H.out.1).mono ?_);rintro e w2 ⟨q2,n2,rfl,hl2,hb2⟩);have B2:=H.out.2.2.2.1.stay hb2;have c0:=B2.c0;have c1:=B2.c1;have z0:=B2.z0;have z1:=B2.z1;have X:=hdz (af B2 (af hl2 (af (H.out.2.1.kp (bO.below hb2)) (H.out.2.2.1.trans (hb2.mono H.out.2.2.1.size)))));clear B2 hl2 hb2;go_wp2_with fail
 have S:=X.out.1.set (.pointer q2) (.int .i64 (n2:Int));have d0:=S.c0;have d1:=S.c1;refine bodyPost_ret (v:=hp ⟨q2,(n2:Int)⟩) (by simp [results,Tryz.results339,go_sem,d0,d1]) rfl ⟨⟨q2,(n2:Int)⟩,rfl,?_,aL X.out.2.2.2 (by omega) _ _⟩;exact aA.of (qf X.out.2.1 X.out.1 aj _ _) (X.out.2.2.1.tail.set2 X.out.1 aj _ _) (by have h1:=H.out.2.2.2.2.1;simp only [Lh.size,ah]at h1;omega) (dU H.out.2.2.2.2.2)
theorem mU {l:List ai}{i:Nat}(h:i<l.length):ah (l.take (i+1))=ah (l.take i)+l[i].size:=by
 have e:∀a b:List ai,ah (a++b)=ah a+ah b:=fun a b=>by
  induction a with
  | nil=>simp [ah]
  | cons t r ih=>simp only [List.cons_append,ah,ih];omega
 rw [List.take_succ_eq_append_getElem h,e];simp [ah]
theorem cO (l:List ai)(i:Nat):ah (l.take i)≤ah l:=by
 have e:∀a b:List ai,ah (a++b)=ah a+ah b:=fun a b=>by
  induction a with
  | nil=>simp [ah]
  | cons t r ih=>simp only [List.cons_append,ah,ih];omega
 conv=>rhs;rw [←List.take_append_drop i l]
 rw [e];omega
theorem jP {W:World}{b o:Nat}{ps:List (Option Addr)}(h:Row1 Lt.one W (some ⟨b,o,none⟩) ps){j:Nat}{p:Option Addr}(hj:ps[j]?=some p):W.cell? ⟨b,o+j,none⟩=some (.pointer p):=by
 obtain ⟨hlt,rfl⟩:=List.getElem?_eq_some_iff.1 hj;obtain ⟨b',o',e,hc⟩:=h (by omega)
 cases e
 exact hc j hlt
theorem jW {W:World}{A:Option Addr}{ps:List (Option Addr)}(h:Row1 Lt.one W A ps)(h0:0<ps.length):∃b o,A=some ⟨b,o,none⟩:=by
 obtain ⟨b,o,e, -⟩:=h h0;exact ⟨b,o,e⟩
end Go.Proofs.YtmeodbjlmjpnbaaGreat.U.Hp
namespace Go.Proofs.YtmeodbjlmjpnbaaGreat.U.Hp
open Go.Sort Go.RowKit Go.Proofs.YtmeodbjlmjpnbaaGreat.U.Gn
theorem bW:∀l:List ai,l.length≤ah l
 | []=>Nat.le_refl _
 | t::r=>by have:=bW r;simp only [List.length_cons,ah,Gn.ai.size];omega
theorem bC {W:World}{p:Option Addr}{t:ai}(h:gQ W p (some t))(r:Nat)(hr:r=t.rank):Calls Tryz.prog 161 #[.pointer p] W fun e w'=>e=.returned (.int .i64 (r:Int))∧w'=W :=
 (Go.Proofs.YtmeodbjlmjpnbaaGreat.U.jG p (some t) W h).mono fun _ _ ⟨he,hw⟩=>⟨by rw [he,hr];rfl,hw⟩
theorem jq:∀(x:Option Addr) (y:Int) (w:World),(Instr.field 257 (.agg #[.pointer x,.int .i64 y]) 0).run Tryz.prog w=.ok (.agg #[.pointer x,.int .i64 y]) w:=fun _ _ _=>by kernel_rfl
theorem bN {t:ai}{ts:List ai}{p:HP}{w:World}(h:aA w ⟨t::ts⟩ p):∃a,gQ w a (some t)∧Calls Tryz.prog 159 #[hp p] w fun e w'=>e=.returned (.tuple #[.pointer a,.bool true])∧Below w.heap.size w w':=by
 obtain ⟨ps,h1,⟨a,ps',rfl,h2,h2'⟩,h3,h4⟩:=h;exact ⟨a,h2,Lt.jH p.q a ps' p.n w h1⟩
theorem eB {p:HP}{w:World}(h:aA w .nil p):Calls Tryz.prog 159 #[hp p] w fun e w'=>e=.returned (.tuple #[.pointer none,.bool false])∧Below w.heap.size w w':=by
 obtain rfl:=h.no;exact Lt.kK 0 w
theorem gN {t:ai}{ts:List ai}{p:HP}{a:Option Addr}{w:World}(h:aA w ⟨ts⟩ p)(ht:gQ w a (some t))(hs:t.size+ah ts<268435456)(hk:fZ (t::ts)):Calls Tryz.prog 163 #[hp p,.pointer a] w fun e w' => ∃p':HP,e=.returned (.agg #[.pointer p'.q,.int .i64 p'.n])∧aA w' ⟨t::ts⟩ p'∧Below w.heap.size w w':=by
 have hlen:=h.len;obtain ⟨ps,n,hn,hnl,hl,hts⟩:=h.list;change n=ts.length at hnl;change ts.length<_ at hlen;obtain ⟨q,pn⟩:=p;change pn=(n:Int) at hn;subst hn;refine (Lt.pY a hl (by omega)).mono fun e w' ⟨q',n',he,hl',hb⟩=>⟨⟨q',(n':Int)⟩,he,?_,hb⟩;exact aA.of (ts:=t::ts) hl' ⟨a,ps,rfl,ht.stay hb,hts.kp (bO.below hb)⟩ hs hk
theorem ug {t:ai}{ts:List ai}(h1:t.hok)(h2:t.sk)(h:fZ ts)(hlow:∀x∈ts,t.rank≤x.rank)(hr:rises ts):fZ (t::ts) :=
 ⟨fun u hu=>by rcases List.mem_cons.1 hu with rfl|hu;exact h1;exact h.hok u hu,fun u hu=>by rcases List.mem_cons.1 hu with rfl|hu;exact h2;exact h.sk u hu,⟨hlow,hr⟩⟩
structure F2 (W:World)(a:Nat)(p:HP):Prop where
 h:aB W a 257 (.pointer p.q) (.int .i64 p.n)
 r:aB W (a+1) 257 (.pointer none) (.int .i64 0)
section
variable {W W':World}{a:Nat}{p q:HP}{mo:Option Nat}{c m:Int}
theorem F2.new (w:World)(p:HP):F2 ((w.alloc (.cells #[.pointer p.q,.int .i64 p.n] 257)).alloc (.cells #[.pointer none,.int .i64 0] 257)) w.heap.size p:=by
 refine ⟨(aB.new w 257 _ _).alloc _,?_⟩;have:=aB.new (w.alloc (.cells #[.pointer p.q,.int .i64 p.n] 257)) 257 (.pointer none) (.int .i64 0);simpa only [World.size_alloc] using this
theorem F2.stay (h:F2 W a p)(hb:Below W.heap.size W W'):F2 W' a p:=⟨h.h.stay hb,h.r.stay hb⟩
theorem F2.bt (h:F2 W a p)(hb:Bt mo W W')(hm:aW W mo c m):F2 W' a p:=⟨h.h.bt hb hm (by decide),h.r.bt hb hm (by decide)⟩
end
theorem aX (w:World)(x y:Obj):Below w.heap.size w ((w.alloc x).alloc y):=((Below.refl _ w).alloc (Nat.le_refl _) _).alloc (by simp) _
def lH (mo:Option Nat)(ts:List ai):Prop:=∀(c m:Int) (t:ai) (pa:Option Addr) (p:HP) (w:World),t.size+ah ts<268435456→aW w mo c m→0≤c→c+ts.length<1152921504606846976→0≤m→m+ts.length<1152921504606846976 →
  aA w ⟨ts⟩ p→rises ts→gQ w pa (some t)→t.hok→t.sk→(∀x∈ts,t.rank≤x.rank) →
  Calls Tryz.prog 335 #[hp p,aF mo,.pointer pa] w (bU mo (c+bg ts t) (m+bg ts t) ⟨dx ts t⟩ w)
theorem uN (mo:Option Nat):lH mo []:=by
 intro c m t pa p w hs hm h0 h1 h2 h3 hl hr ht hk1 hk2 hlow;have HF:=hdz (F2.new w p);have KK:=hdz ((dL.refl (N:=au) hm).stay (aX w (.cells #[.pointer p.q,.int .i64 p.n] 257) (.cells #[.pointer none,.int .i64 0] 257)));have HL:=hdz (af (hl.stay (aX w (.cells #[.pointer p.q,.int .i64 p.n] 257) (.cells #[.pointer none,.int .i64 0] 257))) (ht.stay (aX w (.cells #[.pointer p.q,.int .i64 p.n] 257) (.cells #[.pointer none,.int .i64 0] 257))));have HN:=hdz (af hs (af h0 (af h1 (af h2 h3))));have HO:=hdz (af (show fZ [] from hl.right) (af hr (af hk1 (af hk2 hlow))));clear hs hm h0 h1 h2 h3 hl hr ht hk1 hk2 hlow;go_enter Tryz.func335,Tryz.ntmps335
 go_wp2_with fail
 generalize (w.alloc (.cells #[.pointer p.q,.int .i64 p.n] 257)).alloc (.cells #[.pointer none,.int .i64 0] 257)=w1 at *;obtain ⟨a,ha⟩:=aU (w.heap.size);rw [←ha]at HF ⊢;have HA:=hdz ha;clear ha;((with_reducible refine (eB HL.out.1).mono ?_);rintro e w2 ⟨rfl,hb2⟩);have F2:=hdz (HF.out.stay hb2);have K2:=hdz (KK.out.stay hb2);have L2:=hdz (af (HL.out.1.stay hb2) (HL.out.2.stay hb2));have c0:=F2.out.h.c0;have c1:=F2.out.h.c1;clear hb2 HF KK HL;go_wp2_with fail
 clear c0 c1;((with_reducible refine (gN L2.out.1 L2.out.2 (by have:=HN.out;(try simp only [ah]at *);omega) (ug HO.out.2.2.1 HO.out.2.2.2.1 HO.out.1 HO.out.2.2.2.2 HO.out.2.1)).mono ?_);rintro e w6 ⟨p6,rfl,Io,hb6⟩);have F6:=hdz (F2.out.stay hb6);have K6:=hdz (K2.out.stay hb6);have L6:=hdz Io;have z0:=F6.out.r.z0;have z1:=F6.out.r.z1;have r0:=F6.out.r.c0;have r1:=F6.out.r.c1;have s0:=(F6.out.r.set (.pointer p6.q) (.int .i64 p6.n)).c0;have s1:=(F6.out.r.set (.pointer p6.q) (.int .i64 p6.n)).c1;clear Io hb6;go_wp2_with fail
 have k:=K6.out.eY F6.out.r aj (by decide) (by have:=HA.out;omega) (.pointer p6.q) (.int .i64 p6.n);exact bodyPost_ret (v:=hp p6) (by simp [results,Tryz.results335,go_sem,s0,s1]) rfl ⟨p6,rfl,L6.out.set2 F6.out.r aj _ _,by simpa [bg] using k.mt,k.bt⟩
theorem sN (mo:Option Nat)(x:ai)(us:List ai)(IH:lH mo us):lH mo (x::us):=by
 intro c m t pa p w hs hm h0 h1 h2 h3 hl hr ht hk1 hk2 hlow;have HF:=hdz (F2.new w p);have KK:=hdz ((dL.refl (N:=au) hm).stay (aX w (.cells #[.pointer p.q,.int .i64 p.n] 257) (.cells #[.pointer none,.int .i64 0] 257)));have HL:=hdz (af (hl.stay (aX w (.cells #[.pointer p.q,.int .i64 p.n] 257) (.cells #[.pointer none,.int .i64 0] 257))) (ht.stay (aX w (.cells #[.pointer p.q,.int .i64 p.n] 257) (.cells #[.pointer none,.int .i64 0] 257))));unfold lH at IH;have HI:=hdz IH;clear IH;have HN:=hdz (af hs (af h0 (af h1 (af h2 h3))));have HO:=hdz (af (show fZ (x::us) from hl.right) (af hr (af hk1 (af hk2 hlow))));clear hs hm h0 h1 h2 h3 hl hr ht hk1 hk2 hlow;go_enter Tryz.func335,Tryz.ntmps335
 go_wp2_with fail
 generalize (w.alloc (.cells #[.pointer p.q,.int .i64 p.n] 257)).alloc (.cells #[.pointer none,.int .i64 0] 257)=w1 at *;obtain ⟨a,ha⟩:=aU (w.heap.size);rw [←ha]at HF ⊢;have HA:=hdz ha;clear ha;obtain ⟨xa,hxa,hc⟩:=bN HL.out.1;have HC:=hdz hc;have TX:=hdz hxa;clear hc hxa;((with_reducible refine HC.out.mono ?_);rintro e w2 ⟨rfl,hb2⟩);have F2:=hdz (HF.out.stay hb2);have K2:=hdz (KK.out.stay hb2);have L2:=hdz (af (show aA w2 ⟨x::us⟩ p from HL.out.1.stay hb2) (af (HL.out.2.stay hb2) (TX.out.stay hb2)));have c0:=F2.out.h.c0;have c1:=F2.out.h.c1;obtain ⟨rx,hrx⟩:=aU (x.rank);obtain ⟨rt,hrt⟩:=aU (t.rank);have HR:=hdz (af hrx hrt);clear hb2 HF KK HL HC TX hrx hrt;go_wp2_with fail
 ((with_reducible refine (bC L2.out.2.2 rx HR.out.1).mono ?_);rintro e w3 ⟨rfl,hw3⟩);subst hw3;go_wp2_with fail
 ((with_reducible refine (bC L2.out.2.1 rt HR.out.2).mono ?_);rintro e w3 ⟨rfl,hw3⟩);subst hw3;by_cases heq:rx=rt
 ·have g1:((rx:Int) == (rt:Int))=true:=by simp;omega
  have g2:(rx:Int)=(rt:Int):=by omega
  have HQ:=hdz (show t.rank=x.rank by have:=HR.out;omega);clear heq;go_wp2_with fail
  ((with_reducible refine (bS x us p _ L2.out.1).mono ?_);rintro e w4 ⟨p4,rfl,IC,hb4⟩);have F4:=hdz (F2.out.stay hb4);have K4:=hdz (K2.out.stay hb4);have L4:=hdz (af IC (af (L2.out.2.1.stay hb4) (L2.out.2.2.stay hb4)));clear IC hb4 c0 c1 F2 K2 L2;go_wp2_with fail
  ((with_reducible refine (jy mo c m pa xa (some t) (some x) _ K4.out.mt HN.out.2.1 (by have:=HN.out;omega) HN.out.2.2.2.1 (by have:=HN.out;omega) L4.out.2.1 L4.out.2.2 (by have:=HN.out;simp only [bF,ah]at *;omega) (by have:=HN.out;simp only [bF,ah]at *;omega)).mono ?_);rintro e w5 ⟨p5,rfl,Ip,Im,hb5⟩);have F5:=hdz (F4.out.bt hb5 K4.out.mt);have K5:=hdz (K4.out.turn Im hb5 ax);have L5:=hdz (af (L4.out.1.bt hb5 K4.out.mt) (show gQ w5 p5 (some (fu t x)) from Ip));clear Ip Im hb5 F4 K4 L4;go_wp2_with fail
  have hp:=List.pairwise_cons.1 HO.out.2.1;have hlr:=fA HQ.out;have HI2:=hdz (HI.out (c+(bZ (some t) (some x):Nat)) (m+(bZ (some t) (some x):Nat)) (fu t x) p5 p4 _ (by rw [jJ];have:=HN.out;simp only [ah]at *;omega) K5.out.mt (by have:=HN.out;omega) (by have:=HN.out;simp only [List.length_cons,bZ]at *;omega) (by have:=HN.out;omega) (by have:=HN.out;simp only [List.length_cons,bZ]at *;omega) L5.out.1 hp.2 L5.out.2 (jm HO.out.2.2.1 (HO.out.1.hok x (List.mem_cons_self ..))) (nS HQ.out HO.out.2.2.2.1 (HO.out.1.sk x (List.mem_cons_self ..))) (fun y hy=>by rw [hlr,HQ.out];exact hp.1 y hy));clear hp hlr;((with_reducible refine HI2.out.mono ?_);rintro e w6 ⟨p6,rfl,Io,Iy,hb6⟩);have F6:=hdz (F5.out.bt hb6 K5.out.mt);have K6:=hdz (K5.out.turn Iy hb6 ax);have L6:=hdz Io;have z0:=F6.out.r.z0;have z1:=F6.out.r.z1;have r0:=F6.out.r.c0;have r1:=F6.out.r.c1;have s0:=(F6.out.r.set (.pointer p6.q) (.int .i64 p6.n)).c0;have s1:=(F6.out.r.set (.pointer p6.q) (.int .i64 p6.n)).c1;clear Io Iy hb6 HI2;go_wp2_with fail
  have k:=K6.out.eY F6.out.r aj (by decide) (by have:=HA.out;omega) (.pointer p6.q) (.int .i64 p6.n);have hlt:¬t.rank<x.rank:=by have:=HQ.out;omega
  have e0:dx (x::us) t=dx us (fu t x):=by rw [dx,if_neg hlt]
  have e3:bg (x::us) t=1+bg us (fu t x):=by rw [bg,if_neg hlt];try omega
  have e1:c+((bg (x::us) t:Nat):Int)=c+(bZ (some t) (some x):Nat)+(bg us (fu t x):Nat):=by rw [e3];simp only [bZ];omega
  have e2:m+((bg (x::us) t:Nat):Int)=m+(bZ (some t) (some x):Nat)+(bg us (fu t x):Nat):=by rw [e3];simp only [bZ];omega
  exact bodyPost_ret (v:=hp p6) (by simp [results,Tryz.results335,go_sem,s0,s1]) rfl ⟨p6,rfl,by rw [e0];exact L6.out.set2 F6.out.r aj _ _,by rw [e1,e2];exact k.mt,k.bt⟩
 ·have g1:((rx:Int) == (rt:Int))=false:=by simp;omega
  have g2:¬(rx:Int)=(rt:Int):=by omega
  have HQ:=hdz (show t.rank<x.rank by have h1:=HO.out.2.2.2.2 x (List.mem_cons_self ..);have:=HR.out;omega);clear heq;go_wp2_with fail
  clear c0 c1;((with_reducible refine (gN L2.out.1 L2.out.2.1 (by have:=HN.out;(try simp only [ah]at *);omega) (ug HO.out.2.2.1 HO.out.2.2.2.1 HO.out.1 HO.out.2.2.2.2 HO.out.2.1)).mono ?_);rintro e w6 ⟨p6,rfl,Io,hb6⟩);have F6:=hdz (F2.out.stay hb6);have K6:=hdz (K2.out.stay hb6);have L6:=hdz Io;have z0:=F6.out.r.z0;have z1:=F6.out.r.z1;have r0:=F6.out.r.c0;have r1:=F6.out.r.c1;have s0:=(F6.out.r.set (.pointer p6.q) (.int .i64 p6.n)).c0;have s1:=(F6.out.r.set (.pointer p6.q) (.int .i64 p6.n)).c1;clear Io hb6;go_wp2_with fail
  have k:=K6.out.eY F6.out.r aj (by decide) (by have:=HA.out;omega) (.pointer p6.q) (.int .i64 p6.n);have e0:dx (x::us) t=t::x::us:=by rw [dx,if_pos HQ.out]
  have e3:bg (x::us) t=0:=by rw [bg,if_pos HQ.out]
  exact bodyPost_ret (v:=hp p6) (by simp [results,Tryz.results335,go_sem,s0,s1]) rfl ⟨p6,rfl,by rw [e0];exact L6.out.set2 F6.out.r aj _ _,by rw [e3];simpa using k.mt,k.bt⟩
theorem oW (mo:Option Nat):∀ts:List ai,lH mo ts
 | []=>uN mo
 | x::us=>sN mo x us (oW mo us)
theorem kM (mo:Option Nat)(c m:Int)(t:ai)(ts:List ai)(pa:Option Addr)(p:HP)(w:World)(hs:t.size+ah ts<268435456)(hm:aW w mo c m)(h0:0≤c)(h1:c<1152921504338411520)(h2:0≤m)(h3:m<1152921504338411520)
  (hh:aA w ⟨ts⟩ p) (hr:rises ts) (hta:gQ w pa (some t)) (hk1:t.hok) (hk2:t.sk) (hlow:∀x∈ts,t.rank≤x.rank) :
  Calls Tryz.prog 335 #[hp p,aF mo,.pointer pa] w (bU mo (c+bg ts t) (m+bg ts t) ⟨dx ts t⟩ w) :=
 oW mo ts c m t pa p w hs hm h0 (by have:=bW ts;omega) h2 (by have:=bW ts;omega) hh hr hta hk1 hk2 hlow
theorem zF (mo:Option Nat)(c m:Int)(p:HP)(w:World)(hm:aW w mo c m)(h:aA w .nil p):Calls Tryz.prog 337 #[hp p,aF mo] w (bU mo c m .nil w):=by
 have HF:=hdz (F2.new w p);have KK:=hdz ((dL.refl (N:=au) hm).stay (aX w (.cells #[.pointer p.q,.int .i64 p.n] 257) (.cells #[.pointer none,.int .i64 0] 257)));have HL:=hdz (h.stay (aX w (.cells #[.pointer p.q,.int .i64 p.n] 257) (.cells #[.pointer none,.int .i64 0] 257)));clear hm h;go_enter Tryz.func337,Tryz.ntmps337
 go_wp2_with fail
 generalize (w.alloc (.cells #[.pointer p.q,.int .i64 p.n] 257)).alloc (.cells #[.pointer none,.int .i64 0] 257)=w1 at *;obtain ⟨a,ha⟩:=aU (w.heap.size);rw [←ha]at HF ⊢;have HA:=hdz ha;clear ha;((with_reducible refine (eB HL.out).mono ?_);rintro e w2 ⟨rfl,hb2⟩);have F2:=hdz (HF.out.stay hb2);have K2:=hdz (KK.out.stay hb2);have L2:=hdz (HL.out.stay hb2);have c0:=F2.out.h.c0;have c1:=F2.out.h.c1;have z0:=F2.out.r.z0;have z1:=F2.out.r.z1;have r0:=F2.out.r.c0;have r1:=F2.out.r.c1;have s0:=(F2.out.r.set (.pointer p.q) (.int .i64 p.n)).c0;have s1:=(F2.out.r.set (.pointer p.q) (.int .i64 p.n)).c1;clear hb2 HF KK HL;go_wp2_with fail
 have k:=K2.out.eY F2.out.r aj (by decide) (by have:=HA.out;omega) (.pointer p.q) (.int .i64 p.n);exact bodyPost_ret (v:=hp p) (by simp [results,Tryz.results337,go_sem,s0,s1]) rfl ⟨p,rfl,L2.out.set2 F2.out.r aj _ _,k.mt,k.bt⟩
theorem xK (mo:Option Nat)(c m:Int)(x:ai)(us:List ai)(p:HP)(w:World)(hs:ah (x::us)<268435456)(hm:aW w mo c m)(h0:0≤c)(h1:c<1152921504338411520)(h2:0≤m)(h3:m<1152921504338411520)(h:aA w ⟨x::us⟩ p) :
  Calls Tryz.prog 337 #[hp p,aF mo] w (bU mo (c+bg us x) (m+bg us x) ⟨dx us x⟩ w):=by
 have HF:=hdz (F2.new w p);have KK:=hdz ((dL.refl (N:=au) hm).stay (aX w (.cells #[.pointer p.q,.int .i64 p.n] 257) (.cells #[.pointer none,.int .i64 0] 257)));have HL:=hdz (h.stay (aX w (.cells #[.pointer p.q,.int .i64 p.n] 257) (.cells #[.pointer none,.int .i64 0] 257)));have HO:=hdz (show fZ (x::us) from h.right);have HU:=hdz (show (∀u∈us,x.rank≤u.rank)∧rises us from h.right.up);have HN:=hdz (af hs (af h0 (af h1 (af h2 h3))));clear hm h hs h0 h1 h2 h3;go_enter Tryz.func337,Tryz.ntmps337
 go_wp2_with fail
 generalize (w.alloc (.cells #[.pointer p.q,.int .i64 p.n] 257)).alloc (.cells #[.pointer none,.int .i64 0] 257)=w1 at *;obtain ⟨a,ha⟩:=aU (w.heap.size);rw [←ha]at HF ⊢;have HA:=hdz ha;clear ha;obtain ⟨xa,hxa,hc⟩:=bN HL.out;have HC:=hdz hc;have TX:=hdz hxa;clear hc hxa;((with_reducible refine HC.out.mono ?_);rintro e w2 ⟨rfl,hb2⟩);have F2:=hdz (HF.out.stay hb2);have K2:=hdz (KK.out.stay hb2);have L2:=hdz (af (show aA w2 ⟨x::us⟩ p from HL.out.stay hb2) (TX.out.stay hb2));have c0:=F2.out.h.c0;have c1:=F2.out.h.c1;clear hb2 HF KK HL HC TX;go_wp2_with fail
 ((with_reducible refine (bS x us p _ L2.out.1).mono ?_);rintro e w4 ⟨p4,rfl,IC,hb4⟩);have F4:=hdz (F2.out.stay hb4);have K4:=hdz (K2.out.stay hb4);have L4:=hdz (af IC (L2.out.2.stay hb4));clear IC hb4 c0 c1 F2 K2 L2;go_wp2_with fail
 ((with_reducible refine (kM mo c m x us xa p4 _ (by have:=HN.out.1;simp only [ah]at this;omega) K4.out.mt HN.out.2.1 HN.out.2.2.1 HN.out.2.2.2.1 HN.out.2.2.2.2 L4.out.1 HU.out.2 L4.out.2 (HO.out.hok x (List.mem_cons_self ..)) (HO.out.sk x (List.mem_cons_self ..)) HU.out.1).mono ?_);rintro e w6 ⟨p6,rfl,Io,Iy,hb6⟩);have F6:=hdz (F4.out.bt hb6 K4.out.mt);have K6:=hdz (K4.out.turn Iy hb6 ax);have L6:=hdz Io;have z0:=F6.out.r.z0;have z1:=F6.out.r.z1;have r0:=F6.out.r.c0;have r1:=F6.out.r.c1;have s0:=(F6.out.r.set (.pointer p6.q) (.int .i64 p6.n)).c0;have s1:=(F6.out.r.set (.pointer p6.q) (.int .i64 p6.n)).c1;clear Io Iy hb6;go_wp2_with fail
 have k:=K6.out.eY F6.out.r aj (by decide) (by have:=HA.out;omega) (.pointer p6.q) (.int .i64 p6.n);exact bodyPost_ret (v:=hp p6) (by simp [results,Tryz.results337,go_sem,s0,s1]) rfl ⟨p6,rfl,L6.out.set2 F6.out.r aj _ _,k.mt,k.bt⟩
theorem tL (mo:Option Nat)(c m:Int)(l:List ai)(p:HP)(w:World)(hs:ah l<268435456)(hm:aW w mo c m)(h0:0≤c)(h1:c<1152921504338411520)(h2:0≤m)(h3:m<1152921504338411520)(h:aA w ⟨l⟩ p) :
  Calls Tryz.prog 337 #[hp p,aF mo] w (bU mo (c+gT l) (m+gT l) ⟨dF l⟩ w):=by
 cases l with
 | nil=>exact (zF mo c m p w hm h).mono fun e w' hh=>by simpa [gT,dF,Lh.nil] using hh
 | cons x us=>exact xK mo c m x us p w hs hm h0 h1 h2 h3 h
end Go.Proofs.YtmeodbjlmjpnbaaGreat.U.Hp
namespace Go.Proofs.YtmeodbjlmjpnbaaGreat.U.Hp
open Go.Sort Go.RowKit Go.Proofs.YtmeodbjlmjpnbaaGreat.U.Gn
theorem j6 {P:Program}{c:Code}{a:Act}{w:World}{Q:Exit→Act→World→Prop}(R:Act→Act→World→Prop)(h1:c.wp P (fun e a' w'=>e=.normal∧R a a' w') a w)(h2:∀a' w',R a a' w'→Q .normal a' w'):c.wp P Q a w :=
 Code.wp_mono (fun e a' w' h=>by obtain ⟨rfl,hr⟩:=h;exact h2 a' w' hr) h1
structure Fm (W:World)(a:Nat)(p q:HP):Prop where
 h:aB W a 257 (.pointer p.q) (.int .i64 p.n)
 o:aB W (a+1) 257 (.pointer q.q) (.int .i64 q.n)
 r:aB W (a+2) 257 (.pointer none) (.int .i64 0)
section
variable {W W':World}{a:Nat}{p q:HP}{mo:Option Nat}{c m:Int}
theorem Fm.new (w:World)(p q:HP):Fm (((w.alloc (.cells #[.pointer p.q,.int .i64 p.n] 257)).alloc (.cells #[.pointer q.q,.int .i64 q.n] 257)).alloc (.cells #[.pointer none,.int .i64 0] 257)) w.heap.size p q:=by
 refine ⟨((aB.new w 257 _ _).alloc _).alloc _,?_,?_⟩
 ·have:=(aB.new (w.alloc (.cells #[.pointer p.q,.int .i64 p.n] 257)) 257 (.pointer q.q) (.int .i64 q.n)).alloc (.cells #[.pointer none,.int .i64 0] 257);simpa only [World.size_alloc] using this
 ·have:=aB.new ((w.alloc (.cells #[.pointer p.q,.int .i64 p.n] 257)).alloc (.cells #[.pointer q.q,.int .i64 q.n] 257)) 257 (.pointer none) (.int .i64 0);simpa only [World.size_alloc] using this
theorem Fm.stay (h:Fm W a p q)(hb:Below W.heap.size W W'):Fm W' a p q:=⟨h.h.stay hb,h.o.stay hb,h.r.stay hb⟩
theorem Fm.bt (h:Fm W a p q)(hb:Bt mo W W')(hm:aW W mo c m):Fm W' a p q:=⟨h.h.bt hb hm (by decide),h.o.bt hb hm (by decide),h.r.bt hb hm (by decide)⟩
end
theorem aY (w:World)(x y z:Obj):Below w.heap.size w (((w.alloc x).alloc y).alloc z):=(((Below.refl _ w).alloc (Nat.le_refl _) _).alloc (by simp) _).alloc (by simp;omega) _
def bQ (mo:Option Nat)(la bs:List ai):Prop:=∀(c m:Int) (p q:HP) (w:World),ah la+ah bs<268435456→aW w mo c m→0≤c→c<576460752303423488→0≤m→m<576460752303423488→aA w ⟨la⟩ p→aA w ⟨bs⟩ q→rises la→rises bs →
 Calls Tryz.prog 338 #[hp p,aF mo,hp q] w (bU mo (c+aI la bs) (m+aI la bs) ⟨aP la bs⟩ w)
theorem ja (mo:Option Nat)(bs:List ai):bQ mo ([]) (bs):=by
 intro c m p q w hs hm h0 h1 h2 h3 ha hb ra rb;have HL:=hdz (af ha hb);have HRS:=hdz (af ra rb);have HF:=hdz (Fm.new w p q);have KK:=hdz ((dL.refl (N:=au) hm).stay (aY w (.cells #[.pointer p.q,.int .i64 p.n] 257) (.cells #[.pointer q.q,.int .i64 q.n] 257) (.cells #[.pointer none,.int .i64 0] 257)));have HN:=hdz (af hs (af h0 (af h1 (af h2 h3))));clear hs h0 h1 h2 h3 hm ha hb ra rb;go_enter Tryz.func338,Tryz.ntmps338
 go_wp2_with fail
 generalize ((w.alloc (.cells #[.pointer p.q,.int .i64 p.n] 257)).alloc (.cells #[.pointer q.q,.int .i64 q.n] 257)).alloc (.cells #[.pointer none,.int .i64 0] 257)=w1 at *;obtain ⟨a,ha⟩:=aU (w.heap.size);rw [←ha]at HF ⊢;have HA:=hdz ha;clear ha;((with_reducible refine (eB (HL.out.1.fQ KK.out.kp KK.out.bt.size)).mono ?_);rintro e w2 ⟨rfl,hb2⟩);have F2:=hdz (HF.out.stay hb2);have K2:=hdz (KK.out.stay hb2);have c0:=F2.out.o.c0;have c1:=F2.out.o.c1;have z0:=F2.out.r.z0;have z1:=F2.out.r.z1;have r0:=F2.out.r.c0;have r1:=F2.out.r.c1;have s0:=(F2.out.r.set (.pointer q.q) (.int .i64 q.n)).c0;have s1:=(F2.out.r.set (.pointer q.q) (.int .i64 q.n)).c1;clear hb2 HF KK;go_wp2_with fail
 have k:=K2.out.eY F2.out.r aj (by decide) (by have:=HA.out;omega) (.pointer q.q) (.int .i64 q.n);exact bodyPost_ret (v:=hp q) (by simp [results,Tryz.results338,go_sem,s0,s1]) rfl ⟨q,rfl,by rw [eU];exact HL.out.2.fQ k.kp k.bt.size,by rw [iH];simpa using k.mt,k.bt⟩
theorem ig (mo:Option Nat)(f:ai)(la:List ai):bQ mo (f::la) ([]):=by
 intro c m p q w hs hm h0 h1 h2 h3 ha hb ra rb;have HL:=hdz (af ha hb);have HRS:=hdz (af ra rb);have HF:=hdz (Fm.new w p q);have KK:=hdz ((dL.refl (N:=au) hm).stay (aY w (.cells #[.pointer p.q,.int .i64 p.n] 257) (.cells #[.pointer q.q,.int .i64 q.n] 257) (.cells #[.pointer none,.int .i64 0] 257)));have HN:=hdz (af hs (af h0 (af h1 (af h2 h3))));clear hs h0 h1 h2 h3 hm ha hb ra rb;go_enter Tryz.func338,Tryz.ntmps338
 go_wp2_with fail
 generalize ((w.alloc (.cells #[.pointer p.q,.int .i64 p.n] 257)).alloc (.cells #[.pointer q.q,.int .i64 q.n] 257)).alloc (.cells #[.pointer none,.int .i64 0] 257)=w1 at *;obtain ⟨a,ha⟩:=aU (w.heap.size);rw [←ha]at HF ⊢;have HA:=hdz ha;clear ha;obtain ⟨fa,hfa,hc⟩:=bN (HL.out.1.fQ KK.out.kp KK.out.bt.size);have HC:=hdz hc;have TF:=hdz hfa;clear hc hfa;((with_reducible refine HC.out.mono ?_);rintro e w2 ⟨rfl,hb2⟩);have F2:=hdz (HF.out.stay hb2);have K2:=hdz (KK.out.stay hb2);have T2:=hdz (TF.out.stay hb2);have c0:=F2.out.o.c0;have c1:=F2.out.o.c1;clear hb2 HF KK HC TF;go_wp2_with fail
 clear c0 c1;((with_reducible refine (eB (HL.out.2.fQ K2.out.kp K2.out.bt.size)).mono ?_);rintro e w3 ⟨rfl,hb3⟩);have F3:=hdz (F2.out.stay hb3);have K3:=hdz (K2.out.stay hb3);have c0:=F3.out.h.c0;have c1:=F3.out.h.c1;have z0:=F3.out.r.z0;have z1:=F3.out.r.z1;have r0:=F3.out.r.c0;have r1:=F3.out.r.c1;have s0:=(F3.out.r.set (.pointer p.q) (.int .i64 p.n)).c0;have s1:=(F3.out.r.set (.pointer p.q) (.int .i64 p.n)).c1;clear hb3 F2 K2 T2;go_wp2_with fail
 have k:=K3.out.eY F3.out.r aj (by decide) (by have:=HA.out;omega) (.pointer p.q) (.int .i64 p.n);exact bodyPost_ret (v:=hp p) (by simp [results,Tryz.results338,go_sem,s0,s1]) rfl ⟨p,rfl,by rw [dM];exact HL.out.1.fQ k.kp k.bt.size,by rw [gq];simpa using k.mt,k.bt⟩
theorem fw (mo:Option Nat)(f g:ai)(la bs:List ai)(hlt:f.rank<g.rank)(IH:bQ mo la (g::bs)):bQ mo (f::la) (g::bs):=by
 intro c m p q w hs hm h0 h1 h2 h3 ha hb ra rb;have HL:=hdz (af ha hb);have HRS:=hdz (af ra rb);have HF:=hdz (Fm.new w p q);have KK:=hdz ((dL.refl (N:=au) hm).stay (aY w (.cells #[.pointer p.q,.int .i64 p.n] 257) (.cells #[.pointer q.q,.int .i64 q.n] 257) (.cells #[.pointer none,.int .i64 0] 257)));unfold bQ at IH;have HI:=hdz IH;have HB1:=hdz (eu (f::la) (g::bs) ha.right.hok hb.right.hok ha.right.sk hb.right.sk ra rb);have HE:=hdz (af (iE hlt:aP (f::la) (g::bs)=_) (jR hlt:aI (f::la) (g::bs)=_));have hsz:=fe (f::la) (g::bs);rw [HE.out.1]at hsz;simp only [ah]at hs hsz;have HZ:=hdz hsz;clear hsz IH;have HN:=hdz (af hs (af h0 (af h1 (af h2 h3))));clear hs h0 h1 h2 h3 hm ha hb ra rb;go_enter Tryz.func338,Tryz.ntmps338
 go_wp2_with fail
 generalize ((w.alloc (.cells #[.pointer p.q,.int .i64 p.n] 257)).alloc (.cells #[.pointer q.q,.int .i64 q.n] 257)).alloc (.cells #[.pointer none,.int .i64 0] 257)=w1 at *;obtain ⟨a,ha⟩:=aU (w.heap.size);rw [←ha]at HF ⊢;have HA:=hdz ha;clear ha;obtain ⟨fa,hfa,hc⟩:=bN (HL.out.1.fQ KK.out.kp KK.out.bt.size);have HC:=hdz hc;have TF:=hdz hfa;clear hc hfa;((with_reducible refine HC.out.mono ?_);rintro e w2 ⟨rfl,hb2⟩);have F2:=hdz (HF.out.stay hb2);have K2:=hdz (KK.out.stay hb2);have T2:=hdz (TF.out.stay hb2);have c0:=F2.out.o.c0;have c1:=F2.out.o.c1;clear hb2 HF KK HC TF;go_wp2_with fail
 clear c0 c1;obtain ⟨ga,hga,hc⟩:=bN (HL.out.2.fQ K2.out.kp K2.out.bt.size);have HC:=hdz hc;have TG:=hdz hga;clear hc hga;((with_reducible refine HC.out.mono ?_);rintro e w3 ⟨rfl,hb3⟩);have F3:=hdz (F2.out.stay hb3);have K3:=hdz (K2.out.stay hb3);have T3:=hdz (af (T2.out.stay hb3) (TG.out.stay hb3));clear hb3 F2 K2 T2 HC TG;obtain ⟨rf,hrf⟩:=aU (f.rank);obtain ⟨rg,hrg⟩:=aU (g.rank);have HRK:=hdz (af hrf hrg);rw [←hrf,←hrg]at hlt;clear hrf hrg;go_wp2_with fail
 ((with_reducible refine (bC T3.out.1 rf HRK.out.1).mono ?_);rintro e w4 ⟨rfl,hw4⟩);subst hw4;go_wp2_with fail
 have d0:decide ((rf:Int)<(rg:Int))=true:=by first|omega|(simp;omega)|rfl
 have d1:decide (rf<rg)=true:=by first|omega|(simp;omega)|rfl
 have d2:(rf:Int)<(rg:Int):=by first|omega|(simp;omega)|rfl
 have d3:rf<rg:=by first|omega|(simp;omega)|rfl
 ((with_reducible refine (bC T3.out.2 rg HRK.out.2).mono ?_);rintro e w4 ⟨rfl,hw4⟩);subst hw4;go_wp2_with fail
 have s3_0:=F3.out.h.c0;have s3_1:=F3.out.h.c1;have s3_2:=F3.out.o.c0;have s3_3:=F3.out.o.c1;have TT:=hdz (T3.out.1);have hfd:=jq;have n5:¬a=a+1+1:=by omega
 have n6:¬a+1+1=a:=by omega
 go_region_held3 (fun w'=>w'.cell? ⟨a,0,none⟩=some (.pointer p.q)∧w'.cell? ⟨a,1,none⟩=some (.int .i64 p.n)∧w'.cell? ⟨a+1,0,none⟩=some (.pointer q.q)∧w'.cell? ⟨a+1,1,none⟩=some (.int .i64 q.n)) (go_keep)
  (first|(go_at_call 163;((with_reducible refine (gN L5.out (TK.out) (by have:=HN.out;have:=HZ.out;omega) (HE.out.1▸⟨HB1.out.1,HB1.out.2.1,iy HB1.out.2.2.1⟩)).mono ?_);rintro e w6 ⟨p6,rfl,Io,hb6⟩;have F6:=hdz (F5.out.stay hb6);have K6:=hdz (K5.out.stay hb6);have L6:=hdz Io;have s6_0:=F6.out.h.c0;have s6_1:=F6.out.h.c1;have s6_2:=F6.out.o.c0;have s6_3:=F6.out.o.c1;have z0:=F6.out.r.z0;have z1:=F6.out.r.z1;have r0:=F6.out.r.c0;have r1:=F6.out.r.c1;clear Io hb6))|(go_at_call 339;((with_reducible refine (bS f la p _ ((HL.out.1.fQ K3.out.drew.kp K3.out.drew.bt.size))).mono ?_);rintro e w4 ⟨p4,rfl,IC,hb4⟩;have F4:=hdz ((F3.out.stay ((Below.refl _ _).drew)).stay hb4);have K4:=hdz (K3.out.drew.stay hb4);have L4:=hdz IC;have TT4:=hdz ((TT.out.stay ((Below.refl _ _).drew)).stay hb4);have s4_0:=F4.out.h.c0;have s4_1:=F4.out.h.c1;have s4_2:=F4.out.o.c0;have s4_3:=F4.out.o.c1;clear IC hb4))|(go_at_call 338;((with_reducible refine (HI.out c m p4 q _ (by have:=HN.out;(try simp only [ah]);omega) K4.out.mt HN.out.2.1 HN.out.2.2.1 HN.out.2.2.2.1 HN.out.2.2.2.2 L4.out (HL.out.2.fQ K4.out.kp K4.out.bt.size) (List.pairwise_cons.1 HRS.out.1).2 HRS.out.2).mono ?_);rintro e w5 ⟨p5,rfl,Ip,Im,hb5⟩;have F5:=hdz (F4.out.bt hb5 K4.out.mt);have K5:=hdz (K4.out.turn Im hb5 ax);have L5:=hdz Ip;have TK:=hdz ((TT4.out).kp (Kp.tree (Kp.bt hb5 K4.out.mt)));have s5_0:=F5.out.h.c0;have s5_1:=F5.out.h.c1;have s5_2:=F5.out.o.c0;have s5_3:=F5.out.o.c1;clear Ip Im hb5)))
 go_wp2_with fail
 have s0:=(F6.out.r.set (.pointer p6.q) (.int .i64 p6.n)).c0;have s1:=(F6.out.r.set (.pointer p6.q) (.int .i64 p6.n)).c1;have k:=K6.out.eY F6.out.r aj (by decide) (by have:=HA.out;omega) (.pointer p6.q) (.int .i64 p6.n);exact bodyPost_ret (v:=hp p6) (by simp [results,Tryz.results338,go_sem,s0,s1]) rfl ⟨p6,rfl,by rw [HE.out.1];exact L6.out.set2 F6.out.r aj _ _,by rw [HE.out.2];exact k.mt,k.bt⟩
theorem um (mo:Option Nat)(f g:ai)(la bs:List ai)(hlt:g.rank<f.rank)(IH:bQ mo (f::la) bs):bQ mo (f::la) (g::bs):=by
 intro c m p q w hs hm h0 h1 h2 h3 ha hb ra rb;have HL:=hdz (af ha hb);have HRS:=hdz (af ra rb);have HF:=hdz (Fm.new w p q);have KK:=hdz ((dL.refl (N:=au) hm).stay (aY w (.cells #[.pointer p.q,.int .i64 p.n] 257) (.cells #[.pointer q.q,.int .i64 q.n] 257) (.cells #[.pointer none,.int .i64 0] 257)));unfold bQ at IH;have HI:=hdz IH;have HB1:=hdz (eu (f::la) (g::bs) ha.right.hok hb.right.hok ha.right.sk hb.right.sk ra rb);have HE:=hdz (af (iK hlt:aP (f::la) (g::bs)=_) (kP hlt:aI (f::la) (g::bs)=_));have hsz:=fe (f::la) (g::bs);rw [HE.out.1]at hsz;simp only [ah]at hs hsz;have HZ:=hdz hsz;clear hsz IH;have HN:=hdz (af hs (af h0 (af h1 (af h2 h3))));clear hs h0 h1 h2 h3 hm ha hb ra rb;go_enter Tryz.func338,Tryz.ntmps338
 go_wp2_with fail
 generalize ((w.alloc (.cells #[.pointer p.q,.int .i64 p.n] 257)).alloc (.cells #[.pointer q.q,.int .i64 q.n] 257)).alloc (.cells #[.pointer none,.int .i64 0] 257)=w1 at *;obtain ⟨a,ha⟩:=aU (w.heap.size);rw [←ha]at HF ⊢;have HA:=hdz ha;clear ha;obtain ⟨fa,hfa,hc⟩:=bN (HL.out.1.fQ KK.out.kp KK.out.bt.size);have HC:=hdz hc;have TF:=hdz hfa;clear hc hfa;((with_reducible refine HC.out.mono ?_);rintro e w2 ⟨rfl,hb2⟩);have F2:=hdz (HF.out.stay hb2);have K2:=hdz (KK.out.stay hb2);have T2:=hdz (TF.out.stay hb2);have c0:=F2.out.o.c0;have c1:=F2.out.o.c1;clear hb2 HF KK HC TF;go_wp2_with fail
 clear c0 c1;obtain ⟨ga,hga,hc⟩:=bN (HL.out.2.fQ K2.out.kp K2.out.bt.size);have HC:=hdz hc;have TG:=hdz hga;clear hc hga;((with_reducible refine HC.out.mono ?_);rintro e w3 ⟨rfl,hb3⟩);have F3:=hdz (F2.out.stay hb3);have K3:=hdz (K2.out.stay hb3);have T3:=hdz (af (T2.out.stay hb3) (TG.out.stay hb3));clear hb3 F2 K2 T2 HC TG;obtain ⟨rf,hrf⟩:=aU (f.rank);obtain ⟨rg,hrg⟩:=aU (g.rank);have HRK:=hdz (af hrf hrg);rw [←hrf,←hrg]at hlt;clear hrf hrg;go_wp2_with fail
 ((with_reducible refine (bC T3.out.1 rf HRK.out.1).mono ?_);rintro e w4 ⟨rfl,hw4⟩);subst hw4;go_wp2_with fail
 have d0:decide ((rf:Int)<(rg:Int))=false:=by first|omega|(simp;omega)|rfl
 have d1:decide (rf<rg)=false:=by first|omega|(simp;omega)|rfl
 have d2:¬(rf:Int)<(rg:Int):=by first|omega|(simp;omega)|rfl
 have d3:¬rf<rg:=by first|omega|(simp;omega)|rfl
 ((with_reducible refine (bC T3.out.2 rg HRK.out.2).mono ?_);rintro e w4 ⟨rfl,hw4⟩);subst hw4;go_wp2_with fail
 clear d0 d1 d2 d3;((with_reducible refine (bC T3.out.2 rg HRK.out.2).mono ?_);rintro e w4 ⟨rfl,hw4⟩);subst hw4;go_wp2_with fail
 have d0:decide ((rg:Int)<(rf:Int))=true:=by first|omega|(simp;omega)|rfl
 have d1:decide (rg<rf)=true:=by first|omega|(simp;omega)|rfl
 have d2:(rg:Int)<(rf:Int):=by first|omega|(simp;omega)|rfl
 have d3:rg<rf:=by first|omega|(simp;omega)|rfl
 ((with_reducible refine (bC T3.out.1 rf HRK.out.1).mono ?_);rintro e w4 ⟨rfl,hw4⟩);subst hw4;go_wp2_with fail
 have s3_0:=F3.out.h.c0;have s3_1:=F3.out.h.c1;have s3_2:=F3.out.o.c0;have s3_3:=F3.out.o.c1;have TT:=hdz (T3.out.2);have hfd:=jq;have n5:¬a=a+1+1:=by omega
 have n6:¬a+1+1=a:=by omega
 go_region_held3 (fun w'=>w'.cell? ⟨a,0,none⟩=some (.pointer p.q)∧w'.cell? ⟨a,1,none⟩=some (.int .i64 p.n)∧w'.cell? ⟨a+1,0,none⟩=some (.pointer q.q)∧w'.cell? ⟨a+1,1,none⟩=some (.int .i64 q.n)) (go_keep)
  (first|(go_at_call 163;((with_reducible refine (gN L5.out (TK.out) (by have:=HN.out;have:=HZ.out;omega) (HE.out.1▸⟨HB1.out.1,HB1.out.2.1,iy HB1.out.2.2.1⟩)).mono ?_);rintro e w6 ⟨p6,rfl,Io,hb6⟩;have F6:=hdz (F5.out.stay hb6);have K6:=hdz (K5.out.stay hb6);have L6:=hdz Io;have s6_0:=F6.out.h.c0;have s6_1:=F6.out.h.c1;have s6_2:=F6.out.o.c0;have s6_3:=F6.out.o.c1;have z0:=F6.out.r.z0;have z1:=F6.out.r.z1;have r0:=F6.out.r.c0;have r1:=F6.out.r.c1;clear Io hb6))|(go_at_call 339;((with_reducible refine (bS g bs q _ ((HL.out.2.fQ K3.out.drew.kp K3.out.drew.bt.size))).mono ?_);rintro e w4 ⟨p4,rfl,IC,hb4⟩;have F4:=hdz ((F3.out.stay ((Below.refl _ _).drew)).stay hb4);have K4:=hdz (K3.out.drew.stay hb4);have L4:=hdz IC;have TT4:=hdz ((TT.out.stay ((Below.refl _ _).drew)).stay hb4);have s4_0:=F4.out.h.c0;have s4_1:=F4.out.h.c1;have s4_2:=F4.out.o.c0;have s4_3:=F4.out.o.c1;clear IC hb4))|(go_at_call 338;((with_reducible refine (HI.out c m p p4 _ (by have:=HN.out;(try simp only [ah]);omega) K4.out.mt HN.out.2.1 HN.out.2.2.1 HN.out.2.2.2.1 HN.out.2.2.2.2 (HL.out.1.fQ K4.out.kp K4.out.bt.size) L4.out HRS.out.1 (List.pairwise_cons.1 HRS.out.2).2).mono ?_);rintro e w5 ⟨p5,rfl,Ip,Im,hb5⟩;have F5:=hdz (F4.out.bt hb5 K4.out.mt);have K5:=hdz (K4.out.turn Im hb5 ax);have L5:=hdz Ip;have TK:=hdz ((TT4.out).kp (Kp.tree (Kp.bt hb5 K4.out.mt)));have s5_0:=F5.out.h.c0;have s5_1:=F5.out.h.c1;have s5_2:=F5.out.o.c0;have s5_3:=F5.out.o.c1;clear Ip Im hb5)))
 go_wp2_with fail
 have s0:=(F6.out.r.set (.pointer p6.q) (.int .i64 p6.n)).c0;have s1:=(F6.out.r.set (.pointer p6.q) (.int .i64 p6.n)).c1;have k:=K6.out.eY F6.out.r aj (by decide) (by have:=HA.out;omega) (.pointer p6.q) (.int .i64 p6.n);exact bodyPost_ret (v:=hp p6) (by simp [results,Tryz.results338,go_sem,s0,s1]) rfl ⟨p6,rfl,by rw [HE.out.1];exact L6.out.set2 F6.out.r aj _ _,by rw [HE.out.2];exact k.mt,k.bt⟩
theorem uJ (mo:Option Nat)(f g:ai)(la bs:List ai)(hlt:f.rank=g.rank)(IH:bQ mo la bs):bQ mo (f::la) (g::bs):=by
 intro c m p q w hs hm h0 h1 h2 h3 ha hb ra rb;have HL:=hdz (af ha hb);have HRS:=hdz (af ra rb);have HF:=hdz (Fm.new w p q);have KK:=hdz ((dL.refl (N:=au) hm).stay (aY w (.cells #[.pointer p.q,.int .i64 p.n] 257) (.cells #[.pointer q.q,.int .i64 q.n] 257) (.cells #[.pointer none,.int .i64 0] 257)));unfold bQ at IH;have HI:=hdz IH;have HEQ:=hdz hlt;have HB1:=hdz (af (show fZ (f::la) from ha.right) (show fZ (g::bs) from hb.right));have HE:=hdz (af (iD hlt:aP (f::la) (g::bs)=_) (jO hlt:aI (f::la) (g::bs)=_));have hsz:=fe la bs;have hln:=kH la bs;have hl1:=bW la;have hl2:=bW bs;simp only [ah]at hs;have HZ:=hdz (show ah (aP la bs)=ah la+ah bs∧aI la bs<268435456 from ⟨hsz,by simp only [Gn.ai.size]at hs;omega⟩);clear hsz IH hln hl1 hl2;have HN:=hdz (af hs (af h0 (af h1 (af h2 h3))));clear hs h0 h1 h2 h3 hm ha hb ra rb;go_enter Tryz.func338,Tryz.ntmps338
 go_wp2_with fail
 generalize ((w.alloc (.cells #[.pointer p.q,.int .i64 p.n] 257)).alloc (.cells #[.pointer q.q,.int .i64 q.n] 257)).alloc (.cells #[.pointer none,.int .i64 0] 257)=w1 at *;obtain ⟨a,ha⟩:=aU (w.heap.size);rw [←ha]at HF ⊢;have HA:=hdz ha;clear ha;obtain ⟨fa,hfa,hc⟩:=bN (HL.out.1.fQ KK.out.kp KK.out.bt.size);have HC:=hdz hc;have TF:=hdz hfa;clear hc hfa;((with_reducible refine HC.out.mono ?_);rintro e w2 ⟨rfl,hb2⟩);have F2:=hdz (HF.out.stay hb2);have K2:=hdz (KK.out.stay hb2);have T2:=hdz (TF.out.stay hb2);have c0:=F2.out.o.c0;have c1:=F2.out.o.c1;clear hb2 HF KK HC TF;go_wp2_with fail
 clear c0 c1;obtain ⟨ga,hga,hc⟩:=bN (HL.out.2.fQ K2.out.kp K2.out.bt.size);have HC:=hdz hc;have TG:=hdz hga;clear hc hga;((with_reducible refine HC.out.mono ?_);rintro e w3 ⟨rfl,hb3⟩);have F3:=hdz (F2.out.stay hb3);have K3:=hdz (K2.out.stay hb3);have T3:=hdz (af (T2.out.stay hb3) (TG.out.stay hb3));clear hb3 F2 K2 T2 HC TG;obtain ⟨rf,hrf⟩:=aU (f.rank);obtain ⟨rg,hrg⟩:=aU (g.rank);have HRK:=hdz (af hrf hrg);rw [←hrf,←hrg]at hlt;clear hrf hrg;go_wp2_with fail
 ((with_reducible refine (bC T3.out.1 rf HRK.out.1).mono ?_);rintro e w4 ⟨rfl,hw4⟩);subst hw4;go_wp2_with fail
 have d0:decide ((rf:Int)<(rg:Int))=false:=by first|omega|(simp;omega)|rfl
 have d1:decide (rf<rg)=false:=by first|omega|(simp;omega)|rfl
 have d2:¬(rf:Int)<(rg:Int):=by first|omega|(simp;omega)|rfl
 have d3:¬rf<rg:=by first|omega|(simp;omega)|rfl
 ((with_reducible refine (bC T3.out.2 rg HRK.out.2).mono ?_);rintro e w4 ⟨rfl,hw4⟩);subst hw4;go_wp2_with fail
 clear d0 d1 d2 d3;((with_reducible refine (bC T3.out.2 rg HRK.out.2).mono ?_);rintro e w4 ⟨rfl,hw4⟩);subst hw4;go_wp2_with fail
 have d0:decide ((rg:Int)<(rf:Int))=false:=by first|omega|(simp;omega)|rfl
 have d1:decide (rg<rf)=false:=by first|omega|(simp;omega)|rfl
 have d2:¬(rg:Int)<(rf:Int):=by first|omega|(simp;omega)|rfl
 have d3:¬rg<rf:=by first|omega|(simp;omega)|rfl
 ((with_reducible refine (bC T3.out.1 rf HRK.out.1).mono ?_);rintro e w4 ⟨rfl,hw4⟩);subst hw4;go_wp2_with fail
 clear d0 d1 d2 d3 hlt;refine j6 (R:=fun x x' w' => ∃(u59 u60 u61 u62 u63 u64:Value) (v:Nat) (p5:HP),x'=(((((((x.put (some 59) u59).put (some 60) u60).put (some 61) u61).put (some 62) u62).put (some 63) u63).put (some 64) u64).put (some 10) (.pointer (some ⟨v,0,none⟩)))∧Bt mo w4 w'∧aW w' mo (c+(aI la bs:Nat)) (m+(aI la bs:Nat))∧w4.heap.size≤v∧aB w' v 257 (.pointer p5.q) (.int .i64 p5.n)∧aA w' ⟨aP la bs⟩ p5) ?_ ?_
 ·have HS:=hdz (fun (w':World) (hz:Bt mo w4 w')=>(show w'.cell? ⟨a,0,none⟩=some (.pointer p.q)∧w'.cell? ⟨a,1,none⟩=some (.int .i64 p.n)∧w'.cell? ⟨a+1,0,none⟩=some (.pointer q.q)∧w'.cell? ⟨a+1,1,none⟩=some (.int .i64 q.n) from ⟨(F3.out.bt hz K3.out.mt).h.c0,(F3.out.bt hz K3.out.mt).h.c1,(F3.out.bt hz K3.out.mt).o.c0,(F3.out.bt hz K3.out.mt).o.c1⟩));have hB:=(Bt.refl mo w4).drew;have hM:=K3.out.mt.drew;have IE:=HL.out.1.fQ K3.out.drew.kp K3.out.drew.bt.size;have Iq:=HL.out.2.fQ K3.out.drew.kp K3.out.drew.bt.size;refine wp_region_noPanic ?_;refine wp_region_held_drew (S:=fun w'=>w'.cell? ⟨a,0,none⟩=some (.pointer p.q)∧w'.cell? ⟨a,1,none⟩=some (.int .i64 p.n)∧w'.cell? ⟨a+1,0,none⟩=some (.pointer q.q)∧w'.cell? ⟨a+1,1,none⟩=some (.int .i64 q.n)) (by kernel_rfl) (HS.out _ hB) (fun hH=>?_);generalize w4.drew=wd at *;refine tk 0 hH ?_;try simp only [aZ]
  refine tk 2 hH ?_;try simp only [aZ]
  refine tk 3 hH ?_;try simp only [aZ]
  refine uw 1 6 (fun K hK=>?_) (fun K hK=>?_)
  ·go_simp;go_at_call 339
   (with_reducible refine (bS f la p _ IE).mono ?_);rintro e w5 ⟨p1,rfl,ht1,hb⟩;replace Iq:=Iq.stay hb;replace hB:=hB.trans (Bt.aV hb);replace hM:=hM.stay hb;clear hb IE;refine hK.out _ _ ?_ (fun hH2=>?_)
   ·exact HS.out _ hB
   clear hK K hH;have hH:=hH2;clear hH2;try simp only [aZ]
   refine uw 4 6 (fun K hK=>?_) (fun K hK=>?_)
   ·go_simp;go_at_call 339
    (with_reducible refine (bS g bs q _ Iq).mono ?_);rintro e w6 ⟨p2,rfl,ht2,hb⟩;replace ht1:=ht1.stay hb;replace hB:=hB.trans (Bt.aV hb);replace hM:=hM.stay hb;clear hb Iq;refine hK.out _ _ ?_ (fun hH2=>?_)
    ·exact HS.out _ hB
    clear hK K hH;have hH:=hH2;clear hH2;try simp only [aZ]
    refine uw 5 6 (fun K hK=>?_) (fun K hK=>?_)
    focus
     go_simp;go_at_call 338
     (with_reducible refine (HI.out c m p1 p2 _ (by have:=HN.out;omega) hM HN.out.2.1 HN.out.2.2.1 HN.out.2.2.2.1 HN.out.2.2.2.2 ht1 ht2 (List.pairwise_cons.1 HRS.out.1).2 (List.pairwise_cons.1 HRS.out.2).2).mono ?_);rintro e w7 ⟨p5,rfl,Ip,Im,hb⟩;replace hB:=hB.trans hb;replace hM:=Im;clear hb Im ht1 ht2;refine hK.out _ _ ?_ (fun hH2=>?_)
     ·exact HS.out _ hB
     clear hK K hH;have hH:=hH2;clear hH2;try simp only [aZ]
     refine eD 6 (fun K hK=>?_);go_simp;refine hK.out _ _ ?_ (fun hH2=>?_)
     ·exact HS.out _ (hB.alloc _)
     clear hK K hH;have hH:=hH2;clear hH2;have hv:=aB.new w7 257 (.pointer none) (.int .i64 0);have hV:w4.heap.size≤w7.heap.size:=hB.size;replace Ip:=Ip.stay (bG (.cells #[.pointer none,.int .i64 0] 257));replace hB:=hB.alloc (.cells #[.pointer none,.int .i64 0] 257);replace hM:=hM.alloc (.cells #[.pointer none,.int .i64 0] 257);obtain ⟨v,hve⟩:=aU (w7.heap.size);rw [←hve]at hv hV ⊢;clear hve;generalize w7.alloc (.cells #[.pointer none,.int .i64 0] 257)=wA at *
    rotate_left
    focus
     go_simp;refine hK.out _ _ ?_ (fun hH2=>?_)
     ·exact HS.out _ (hB.alloc _)
     clear hK K hH;have hH:=hH2;clear hH2;have hv:=aB.new w6 257 (.pointer none) (.int .i64 0);have hV:w4.heap.size≤w6.heap.size:=hB.size;replace ht1:=ht1.stay (bG (.cells #[.pointer none,.int .i64 0] 257));replace ht2:=ht2.stay (bG (.cells #[.pointer none,.int .i64 0] 257));replace hB:=hB.alloc (.cells #[.pointer none,.int .i64 0] 257);replace hM:=hM.alloc (.cells #[.pointer none,.int .i64 0] 257);obtain ⟨v,hve⟩:=aU (w6.heap.size);rw [←hve]at hv hV ⊢;clear hve;generalize w6.alloc (.cells #[.pointer none,.int .i64 0] 257)=wA at *;try simp only [aZ]
     refine eD 5 (fun K hK=>?_);go_simp;go_at_call 338
     (with_reducible refine (HI.out c m p1 p2 _ (by have:=HN.out;omega) hM HN.out.2.1 HN.out.2.2.1 HN.out.2.2.2.1 HN.out.2.2.2.2 ht1 ht2 (List.pairwise_cons.1 HRS.out.1).2 (List.pairwise_cons.1 HRS.out.2).2).mono ?_);rintro e w7 ⟨p5,rfl,Ip,Im,hb⟩;replace hv:=hv.bt hb hM (by decide);replace hB:=hB.trans hb;replace hM:=Im;clear hb Im ht1 ht2;refine hK.out _ _ ?_ (fun hH2=>?_)
     ·exact HS.out _ hB
     clear hK K hH;have hH:=hH2;clear hH2
    rotate_left
    all_goals
     try simp only [aZ]
     have vc0:=hv.c0;have vc1:=hv.c1;have vz0:=hv.z0;have vz1:=hv.z1;refine eD 7 (fun K hK=>?_);go_simp;refine hK.out _ _ ?_ (fun hH2=>?_)
     ·exact HS.out _ ((hB.own hV 0 _).own hV 1 _)
     clear hK K hH;have hH:=hH2;clear hH2;have hv2:=hv.set (.pointer p5.q) (.int .i64 p5.n);have Io:=Ip.set2 hv aj (.pointer p5.q) (.int .i64 p5.n);have hB2:=(hB.own hV 0 (.pointer p5.q)).own hV 1 (.int .i64 p5.n);have hM2:=(hM.other hv (by decide) 0 (.pointer p5.q)).other (hv.set0 (.pointer p5.q)) (by decide) 1 (.int .i64 p5.n);clear vc0 vc1 vz0 vz1;try simp only [aZ]
     refine dn ?_;clear hH;exact ⟨rfl,_,_,_,_,_,_,v,p5,by (try simp only [aZ]);rfl,hB2,hM2,hV,hv2,Io⟩
   ·go_simp;refine hK.out _ _ ?_ (fun hH2=>?_)
    ·exact HS.out _ (hB.alloc _)
    clear hK K hH;have hH:=hH2;clear hH2;have hv:=aB.new w5 257 (.pointer none) (.int .i64 0);have hV:w4.heap.size≤w5.heap.size:=hB.size;replace ht1:=ht1.stay (bG (.cells #[.pointer none,.int .i64 0] 257));replace Iq:=Iq.stay (bG (.cells #[.pointer none,.int .i64 0] 257));replace hB:=hB.alloc (.cells #[.pointer none,.int .i64 0] 257);replace hM:=hM.alloc (.cells #[.pointer none,.int .i64 0] 257);obtain ⟨v,hve⟩:=aU (w5.heap.size);rw [←hve]at hv hV ⊢;clear hve;generalize w5.alloc (.cells #[.pointer none,.int .i64 0] 257)=wA at *;try simp only [aZ]
    refine eD 4 (fun K hK=>?_);go_simp;go_at_call 339
    (with_reducible refine (bS g bs q _ Iq).mono ?_);rintro e w6 ⟨p2,rfl,ht2,hb⟩;replace ht1:=ht1.stay hb;replace hB:=hB.trans (Bt.aV hb);replace hM:=hM.stay hb;replace hv:=hv.stay hb;clear hb Iq;refine hK.out _ _ ?_ (fun hH2=>?_)
    ·exact HS.out _ hB
    clear hK K hH;have hH:=hH2;clear hH2;try simp only [aZ]
    refine eD 5 (fun K hK=>?_);go_simp;go_at_call 338
    (with_reducible refine (HI.out c m p1 p2 _ (by have:=HN.out;omega) hM HN.out.2.1 HN.out.2.2.1 HN.out.2.2.2.1 HN.out.2.2.2.2 ht1 ht2 (List.pairwise_cons.1 HRS.out.1).2 (List.pairwise_cons.1 HRS.out.2).2).mono ?_);rintro e w7 ⟨p5,rfl,Ip,Im,hb⟩;replace hv:=hv.bt hb hM (by decide);replace hB:=hB.trans hb;replace hM:=Im;clear hb Im ht1 ht2;refine hK.out _ _ ?_ (fun hH2=>?_)
    ·exact HS.out _ hB
    clear hK K hH;have hH:=hH2;clear hH2;try simp only [aZ]
    have vc0:=hv.c0;have vc1:=hv.c1;have vz0:=hv.z0;have vz1:=hv.z1;refine eD 7 (fun K hK=>?_);go_simp;refine hK.out _ _ ?_ (fun hH2=>?_)
    ·exact HS.out _ ((hB.own hV 0 _).own hV 1 _)
    clear hK K hH;have hH:=hH2;clear hH2;have hv2:=hv.set (.pointer p5.q) (.int .i64 p5.n);have Io:=Ip.set2 hv aj (.pointer p5.q) (.int .i64 p5.n);have hB2:=(hB.own hV 0 (.pointer p5.q)).own hV 1 (.int .i64 p5.n);have hM2:=(hM.other hv (by decide) 0 (.pointer p5.q)).other (hv.set0 (.pointer p5.q)) (by decide) 1 (.int .i64 p5.n);clear vc0 vc1 vz0 vz1;try simp only [aZ]
    refine dn ?_;clear hH;exact ⟨rfl,_,_,_,_,_,_,v,p5,by (try simp only [aZ]);rfl,hB2,hM2,hV,hv2,Io⟩
  ·go_simp;refine hK.out _ _ ?_ (fun hH2=>?_)
   ·exact HS.out _ (hB.alloc _)
   clear hK K hH;have hH:=hH2;clear hH2;have hv:=aB.new wd 257 (.pointer none) (.int .i64 0);have hV:w4.heap.size≤wd.heap.size:=hB.size;replace IE:=IE.stay (bG (.cells #[.pointer none,.int .i64 0] 257));replace Iq:=Iq.stay (bG (.cells #[.pointer none,.int .i64 0] 257));replace hB:=hB.alloc (.cells #[.pointer none,.int .i64 0] 257);replace hM:=hM.alloc (.cells #[.pointer none,.int .i64 0] 257);obtain ⟨v,hve⟩:=aU (wd.heap.size);rw [←hve]at hv hV ⊢;clear hve;generalize wd.alloc (.cells #[.pointer none,.int .i64 0] 257)=wA at *;try simp only [aZ]
   refine eD 1 (fun K hK=>?_);go_simp;go_at_call 339
   (with_reducible refine (bS f la p _ IE).mono ?_);rintro e w5 ⟨p1,rfl,ht1,hb⟩;replace Iq:=Iq.stay hb;replace hB:=hB.trans (Bt.aV hb);replace hM:=hM.stay hb;replace hv:=hv.stay hb;clear hb IE;refine hK.out _ _ ?_ (fun hH2=>?_)
   ·exact HS.out _ hB
   clear hK K hH;have hH:=hH2;clear hH2;try simp only [aZ]
   refine eD 4 (fun K hK=>?_);go_simp;go_at_call 339
   (with_reducible refine (bS g bs q _ Iq).mono ?_);rintro e w6 ⟨p2,rfl,ht2,hb⟩;replace ht1:=ht1.stay hb;replace hB:=hB.trans (Bt.aV hb);replace hM:=hM.stay hb;replace hv:=hv.stay hb;clear hb Iq;refine hK.out _ _ ?_ (fun hH2=>?_)
   ·exact HS.out _ hB
   clear hK K hH;have hH:=hH2;clear hH2;try simp only [aZ]
   refine eD 5 (fun K hK=>?_);go_simp;go_at_call 338
   (with_reducible refine (HI.out c m p1 p2 _ (by have:=HN.out;omega) hM HN.out.2.1 HN.out.2.2.1 HN.out.2.2.2.1 HN.out.2.2.2.2 ht1 ht2 (List.pairwise_cons.1 HRS.out.1).2 (List.pairwise_cons.1 HRS.out.2).2).mono ?_);rintro e w7 ⟨p5,rfl,Ip,Im,hb⟩;replace hv:=hv.bt hb hM (by decide);replace hB:=hB.trans hb;replace hM:=Im;clear hb Im ht1 ht2;refine hK.out _ _ ?_ (fun hH2=>?_)
   ·exact HS.out _ hB
   clear hK K hH;have hH:=hH2;clear hH2;try simp only [aZ]
   have vc0:=hv.c0;have vc1:=hv.c1;have vz0:=hv.z0;have vz1:=hv.z1;refine eD 7 (fun K hK=>?_);go_simp;refine hK.out _ _ ?_ (fun hH2=>?_)
   ·exact HS.out _ ((hB.own hV 0 _).own hV 1 _)
   clear hK K hH;have hH:=hH2;clear hH2;have hv2:=hv.set (.pointer p5.q) (.int .i64 p5.n);have Io:=Ip.set2 hv aj (.pointer p5.q) (.int .i64 p5.n);have hB2:=(hB.own hV 0 (.pointer p5.q)).own hV 1 (.int .i64 p5.n);have hM2:=(hM.other hv (by decide) 0 (.pointer p5.q)).other (hv.set0 (.pointer p5.q)) (by decide) 1 (.int .i64 p5.n);clear vc0 vc1 vz0 vz1;try simp only [aZ]
   refine dn ?_;clear hH;exact ⟨rfl,_,_,_,_,_,_,v,p5,by (try simp only [aZ]);rfl,hB2,hM2,hV,hv2,Io⟩
 rintro x' w' ⟨u59,u60,u61,u62,u63,u64,v,p5,rfl,hB,hM,hV,hv,ht⟩;try simp only [aZ]
 have nv1:¬v=a+1+1:=by have:=F3.out.r.lt;omega
 have nv2:¬a+1+1=v:=by have:=F3.out.r.lt;omega
 have F5:=hdz (F3.out.bt hB K3.out.mt);have K5:=hdz (K3.out.turn hM hB ax);have T5:=hdz (af (T3.out.1.kp (Kp.tree (Kp.bt hB K3.out.mt))) (T3.out.2.kp (Kp.tree (Kp.bt hB K3.out.mt))));have V5:=hdz (af hv (af ht hV));have v0:=hv.c0;have v1:=hv.c1;clear hB hM hV hv ht F3 K3 T3;go_wp2_with fail
 have HQ:=hdz HEQ.out;have HBR:=hdz (eu la bs (dU HB1.out.1).hok (dU HB1.out.2).hok (dU HB1.out.1).sk (dU HB1.out.2).sk (List.pairwise_cons.1 HRS.out.1).2 (List.pairwise_cons.1 HRS.out.2).2).2.2.1
 have HLOW:=hdz (show ∀x∈aP la bs,(fu f g).rank≤x.rank from by
  rw [fA HQ.out];have h1:=List.pairwise_cons.1 HRS.out.1;have h2:=List.pairwise_cons.1 HRS.out.2;have h3:=(eu la bs (dU HB1.out.1).hok (dU HB1.out.2).hok (dU HB1.out.1).sk (dU HB1.out.2).sk h1.2 h2.2).2.2.2 (f.rank+1) (fun u hu=>h1.1 u hu) (fun u hu=>by have:=h2.1 u hu;have:=HQ.out;omega);exact h3)
 go_region_held3 (fun w'=>w'.cell? ⟨v,0,none⟩=some (.pointer p5.q)∧w'.cell? ⟨v,1,none⟩=some (.int .i64 p5.n)) (go_keep)
  (first|(go_at_call 175;((with_reducible refine (jy mo (c+(aI la bs:Nat)) (m+(aI la bs:Nat)) fa ga (some f) (some g) _ K5.out.drew.mt (by have:=HN.out;omega) (by have:=HN.out;have:=HZ.out;omega) (by have:=HN.out;omega) (by have:=HN.out;have:=HZ.out;omega) (T5.out.1.stay ((Below.refl _ _).drew)) (T5.out.2.stay ((Below.refl _ _).drew)) (by have:=HN.out;simp only [bF];omega) (by have:=HN.out;simp only [bF];omega)).mono ?_);rintro e w6 ⟨p6,rfl,Io,Iy,hb6⟩;have F6:=hdz ((F5.out.stay ((Below.refl _ _).drew)).bt hb6 K5.out.drew.mt);have K6:=hdz (K5.out.drew.turn Iy hb6 ax);have T6:=hdz (show gQ w6 p6 (some (fu f g)) from Io);have V6:=hdz (af ((V5.out.1.stay ((Below.refl _ _).drew)).bt hb6 K5.out.drew.mt (by decide)) ((V5.out.2.1.stay ((Below.refl _ _).drew)).bt hb6 K5.out.drew.mt));have v60:=V6.out.1.c0;have v61:=V6.out.1.c1;clear Io Iy hb6))|(go_at_call 335;((with_reducible refine (kM mo (c+(aI la bs:Nat)+(bZ (some f) (some g):Nat)) (m+(aI la bs:Nat)+(bZ (some f) (some g):Nat)) (fu f g) (aP la bs) p6 p5 _ (by rw [jJ];have:=HN.out;have:=HZ.out;omega) K6.out.mt (by have:=HN.out;omega) (by have:=HN.out;have:=HZ.out;simp only [bZ];omega) (by have:=HN.out;omega) (by have:=HN.out;have:=HZ.out;simp only [bZ];omega) V6.out.2 HBR.out T6.out (jm (HB1.out.1.hok f (List.mem_cons_self ..)) (HB1.out.2.hok g (List.mem_cons_self ..))) (nS HQ.out (HB1.out.1.sk f (List.mem_cons_self ..)) (HB1.out.2.sk g (List.mem_cons_self ..))) HLOW.out).mono ?_);rintro e w7 ⟨p7,rfl,Ir,hm7,Iu⟩;have F7:=hdz (F6.out.bt Iu K6.out.mt);have K7:=hdz (K6.out.turn hm7 Iu ax);have L7:=hdz Ir;have V7:=hdz (V6.out.1.bt Iu K6.out.mt (by decide));have v70:=V7.out.c0;have v71:=V7.out.c1;have z0:=F7.out.r.z0;have z1:=F7.out.r.z1;have r0:=F7.out.r.c0;have r1:=F7.out.r.c1;clear Ir hm7 Iu)))
 go_wp2_with fail
 have s0:=(F7.out.r.set (.pointer p7.q) (.int .i64 p7.n)).c0;have s1:=(F7.out.r.set (.pointer p7.q) (.int .i64 p7.n)).c1;have k:=K7.out.eY F7.out.r aj (by decide) (by have:=HA.out;omega) (.pointer p7.q) (.int .i64 p7.n);have e1:c+((1+aI la bs+bg (aP la bs) (fu f g):Nat):Int)=c+(aI la bs:Nat)+(bZ (some f) (some g):Nat)+(bg (aP la bs) (fu f g):Nat):=by simp only [bZ];omega
 have e2:m+((1+aI la bs+bg (aP la bs) (fu f g):Nat):Int)=m+(aI la bs:Nat)+(bZ (some f) (some g):Nat)+(bg (aP la bs) (fu f g):Nat):=by simp only [bZ];omega
 exact bodyPost_ret (v:=hp p7) (by simp [results,Tryz.results338,go_sem,s0,s1]) rfl ⟨p7,rfl,by rw [HE.out.1];exact L7.out.set2 F7.out.r aj _ _,by rw [HE.out.2,e1,e2];exact k.mt,k.bt⟩
theorem sU (mo:Option Nat):∀la bs:List ai,bQ mo la bs:=by
 refine gW ?_ ?_ ?_ ?_ ?_
 ·exact fun b=>ja mo b
 ·exact fun f a=>ig mo f a
 ·exact fun f a g b h ih=>fw mo f g a b h ih
 ·exact fun f a g b h ih=>um mo f g a b h ih
 ·exact fun f a g b h ih=>uJ mo f g a b h ih
end Go.Proofs.YtmeodbjlmjpnbaaGreat.U.Hp
namespace Go.Proofs.YtmeodbjlmjpnbaaGreat.U.Hp
open Go.Sort Go.RowKit Go.Proofs.YtmeodbjlmjpnbaaGreat.U.Gn
theorem si (mo:Option Nat)(la lb:List ai)(c m:Int)(p q:HP)(w:World)(hs:ah la+ah lb<268435456)(hm:aW w mo c m)(h0:0≤c)(h1:c<576460752303423488)(h2:0≤m)(h3:m<576460752303423488)(ha:aA w ⟨la⟩ p)(hb:aA w ⟨lb⟩ q)(ra:rises la)(rb:rises lb) :
  Calls Tryz.prog 338 #[hp p,aF mo,hp q] w (bU mo (c+aI la lb) (m+aI la lb) ⟨aP la lb⟩ w):=sU mo la lb c m p q w hs hm h0 h1 h2 h3 ha hb ra rb
theorem pO (l:List ai):gT l≤ah l:=by
 have h1:=nN l;have h2:=bW l;omega
theorem nk {l:List ai}(h:fZ l):rises (dF l):=(jS h).2.2
theorem EN (mo:Option Nat)(la lb:List ai)(c m:Int)(p q:HP)(w:World)(hs:ah la+ah lb<268435456)(hm:aW w mo c m)(h0:0≤c)(h1:c<288230376151711744)(h2:0≤m)(h3:m<288230376151711744)(ha:aA w ⟨la⟩ p)(hb:aA w ⟨lb⟩ q) :
  Calls Tryz.prog 330 #[hp p,aF mo,hp q] w (bU mo (c+fO la lb) (m+fO la lb) ⟨nu la lb⟩ w):=by
 have HF:=hdz (Fm.new w p q);have KK:=hdz ((dL.refl (N:=au) hm).stay (aY w (.cells #[.pointer p.q,.int .i64 p.n] 257) (.cells #[.pointer q.q,.int .i64 q.n] 257) (.cells #[.pointer none,.int .i64 0] 257)));have HL:=hdz (af (ha.stay (aY w (.cells #[.pointer p.q,.int .i64 p.n] 257) (.cells #[.pointer q.q,.int .i64 q.n] 257) (.cells #[.pointer none,.int .i64 0] 257))) (hb.stay (aY w (.cells #[.pointer p.q,.int .i64 p.n] 257) (.cells #[.pointer q.q,.int .i64 q.n] 257) (.cells #[.pointer none,.int .i64 0] 257))));have HO:=hdz (af (show fZ la from ha.right) (show fZ lb from hb.right));have hz1:=pO la;have hz2:=pO lb;have HN:=hdz (af hs (af h0 (af h1 (af h2 (af h3 (af hz1 hz2))))));clear hs h0 h1 h2 h3 hm ha hb hz1 hz2;go_enter Tryz.func330,Tryz.ntmps330
 go_wp2_with fail
 generalize ((w.alloc (.cells #[.pointer p.q,.int .i64 p.n] 257)).alloc (.cells #[.pointer q.q,.int .i64 q.n] 257)).alloc (.cells #[.pointer none,.int .i64 0] 257)=w1 at *;obtain ⟨a,ha⟩:=aU (w.heap.size);rw [←ha]at HF ⊢;have HA:=hdz ha;clear ha;((with_reducible refine (tL mo c m la p _ (by have:=HN.out;omega) KK.out.mt HN.out.2.1 (by have:=HN.out;omega) HN.out.2.2.2.1 (by have:=HN.out;omega) HL.out.1).mono ?_);rintro e w2 ⟨p5,rfl,ht,hm2,hb⟩);have hb4:Bt mo w1 (w2.alloc (.cells #[.pointer p5.q,.int .i64 p5.n] 257)):=hb.alloc _;have F3:=hdz (HF.out.bt hb4 KK.out.mt);have K3:=hdz (KK.out.turn (hm2.alloc (.cells #[.pointer p5.q,.int .i64 p5.n] 257)) hb4 ax);have L3:=hdz (af (ht.stay (bG (.cells #[.pointer p5.q,.int .i64 p5.n] 257))) (HL.out.2.bt hb4 KK.out.mt));have V3:=hdz (aB.new w2 257 (.pointer p5.q) (.int .i64 p5.n));have HVL:=hdz (Nat.lt_of_lt_of_le HF.out.r.lt hb.size);clear ht hm2 hb hb4 HF KK HL;go_wp2_with fail
 generalize w2.alloc (.cells #[.pointer p5.q,.int .i64 p5.n] 257)=w3 at *;obtain ⟨v,hv⟩:=aU (w2.heap.size);rw [←hv]at V3 HVL ⊢;clear hv;have v0:=V3.out.c0;have v1:=V3.out.c1;have f2:=F3.out.o.c0;have f3:=F3.out.o.c1;have n1:¬v=a+1+1:=by have:=HVL.out;omega
 have n2:¬a+1+1=v:=by have:=HVL.out;omega
 have n3:¬a+1=a+1+1:=by omega
 have n4:¬a+1+1=a+1:=by omega
 go_region_held3 (fun w'=>w'.cell? ⟨v,0,none⟩=some (.pointer p5.q)∧w'.cell? ⟨v,1,none⟩=some (.int .i64 p5.n)∧w'.cell? ⟨a+1,0,none⟩=some (.pointer q.q)∧w'.cell? ⟨a+1,1,none⟩=some (.int .i64 q.n)) (go_keep)
  (first|(go_at_call 338;((with_reducible refine (si mo (dF la) (dF lb) (c+gT la+gT lb) (m+gT la+gT lb) p5 p6 _ (by rw [lQ,lQ];exact HN.out.1) K4.out.mt (by have:=HN.out;omega) (by have:=HN.out;omega) (by have:=HN.out;omega) (by have:=HN.out;omega) L4.out.1 L4.out.2 (nk HO.out.1) (nk HO.out.2)).mono ?_);rintro e w5 ⟨p7,rfl,Ip,Im,hb5⟩;have F5:=hdz (F4.out.bt hb5 K4.out.mt);have V5:=hdz (V4.out.bt hb5 K4.out.mt (by decide));have K5:=hdz (K4.out.turn Im hb5 ax);have L5:=hdz Ip;have kb0:=V5.out.c0;have kb1:=V5.out.c1;have kb2:=F5.out.o.c0;have kb3:=F5.out.o.c1;have r6:=F5.out.r.c0;have r7:=F5.out.r.c1;have z6:=F5.out.r.z0;have z7:=F5.out.r.z1;clear Ip Im hb5))|(go_at_call 337;((with_reducible refine (tL mo (c+gT la) (m+gT la) lb q _ (by have:=HN.out;omega) K3.out.drew.mt (by have:=HN.out;omega) (by have:=HN.out;omega) (by have:=HN.out;omega) (by have:=HN.out;omega) (L3.out.2.stay ((Below.refl _ _).drew))).mono ?_);rintro e w4 ⟨p6,rfl,IC,hm4,hb4⟩;have F4:=hdz ((F3.out.stay ((Below.refl _ _).drew)).bt hb4 K3.out.drew.mt);have V4:=hdz ((V3.out.stay ((Below.refl _ _).drew)).bt hb4 K3.out.drew.mt (by decide));have K4:=hdz (K3.out.drew.turn hm4 hb4 ax);have L4:=hdz (af ((L3.out.1.stay ((Below.refl _ _).drew)).bt hb4 K3.out.drew.mt) IC);have ka0:=V4.out.c0;have ka1:=V4.out.c1;have ka2:=F4.out.o.c0;have ka3:=F4.out.o.c1;clear IC hm4 hb4)))
 go_wp2_with fail
 have s0:=(F5.out.r.set (.pointer p7.q) (.int .i64 p7.n)).c0;have s1:=(F5.out.r.set (.pointer p7.q) (.int .i64 p7.n)).c1;have hk:=K5.out.eY F5.out.r aj (by decide) (by have:=HA.out;omega) (.pointer p7.q) (.int .i64 p7.n);have hmt:=hk.mt;rw [show c+(gT la:Nat)+(gT lb:Nat)+(aI (dF la) (dF lb):Nat)=c+((fO la lb:Nat):Int) from by unfold fO;omega,show m+(gT la:Nat)+(gT lb:Nat)+(aI (dF la) (dF lb):Nat)=m+((fO la lb:Nat):Int) from by unfold fO;omega]at hmt;exact bodyPost_ret (v:=hp p7) (by simp [results,Tryz.results330,go_sem,s0,s1]) rfl ⟨p7,rfl,L5.out.set2 F5.out.r aj _ _,hmt,hk.bt⟩
theorem eT (mo:Option Nat)(a b:Lh)(c m:Int)(p q:HP)(w:World)(hs:a.size+b.size<268435456)(hm:aW w mo c m)(h0:0≤c)(h1:c<288230376151711744)(h2:0≤m)(h3:m<288230376151711744)
  (ha:aA w a p) (hb:aA w b q):Calls Tryz.prog 330 #[hp p,aF mo,hp q] w (bU mo (c+aQ a b) (m+aQ a b) (bI a b) w) :=
 EN mo a.ts b.ts c m p q w hs hm h0 h1 h2 h3 ha hb
end Go.Proofs.YtmeodbjlmjpnbaaGreat.U.Hp
namespace Go.Proofs.YtmeodbjlmjpnbaaGreat.U.Hp
open Go.Sort Go.RowKit Go.Proofs.YtmeodbjlmjpnbaaGreat.U.Gn
theorem iO:∀a b:List ai,ah (a++b)=ah a+ah b
 | [],b=>by simp [ah]
 | t::r,b=>by simp only [List.cons_append,ah,iO r b];omega
theorem gu (l:List ai)(i:Nat):ah (l.drop i)≤ah l:=by
 conv=>rhs;rw [←List.take_append_drop i l]
 rw [iO];omega
section
variable {w:World}{ts us:List ai}{p q:HP}
theorem jT (h:aA w ⟨ts⟩ p)(k:Nat)(hk:k<2147483648):Calls Tryz.prog 162 #[hp p,.int .i64 (k:Int)] w fun e w' => ∃p':HP,e=.returned (.agg #[.pointer p'.q,.int .i64 p'.n])∧aA w' ⟨ts.drop k⟩ p'∧Below w.heap.size w w':=by
 have hs:=h.small;have hok:fZ ts:=h.right;obtain ⟨ps,n,hn,hnl,hl,ht⟩:=h.list;obtain ⟨q0,pn⟩:=p;change pn=(n:Int) at hn;subst hn;refine (Lt.uV (k:Int) hl (by omega) (by omega)).mono fun e w' ⟨q',n',he,hl',hb⟩=>⟨⟨q',(n':Int)⟩,he,?_,hb⟩;rw [show (k:Int).toNat=k from rfl]at hl';exact aA.of hl' ((ht.drop k).kp (bO.below hb)) (Nat.lt_of_le_of_lt (gu ts k) hs) (jw hok (List.drop_sublist k ts))
theorem eZ (h:aA w ⟨ts⟩ p):Calls Tryz.prog 160 #[hp p] w fun e w' => ∃p':HP,e=.returned (.agg #[.pointer p'.q,.int .i64 p'.n])∧aA w' ⟨ts.tail⟩ p'∧Below w.heap.size w w':=by
 have hs:=h.small;have hok:fZ ts:=h.right;obtain ⟨ps,n,hn,hnl,hl,ht⟩:=h.list;obtain ⟨q0,pn⟩:=p;change pn=(n:Int) at hn;subst hn;refine (Lt.oC hl).mono fun e w' ⟨q',n',he,hl',hb⟩=>⟨⟨q',(n':Int)⟩,he,?_,hb⟩;refine aA.of hl' (ht.tail.kp (bO.below hb)) ?_ (jw hok (List.tail_sublist ts));rw [←List.drop_one];exact Nat.lt_of_le_of_lt (gu ts 1) hs
theorem xu {A:Option Addr}{n c:Nat}{ps:List (Option Addr)}(hr:Row1 Lt.one w A ps)(ht:aS w ts ps)(hn:n=ts.length)(hs:ah ts<268435456)(hok:fZ ts):Calls Tryz.prog 342 #[.slice A n c] w fun e w' => ∃p':HP,e=.returned (.agg #[.pointer p'.q,.int .i64 p'.n])∧aA w' ⟨ts⟩ p'∧Below w.heap.size w w':=by
 have hl:=bW ts;refine (Lt.Bg (hn.trans ht.length.symm) hr (by omega)).mono fun e w' ⟨q',n',he,hl',hb⟩=>⟨⟨q',(n':Int)⟩,he,?_,hb⟩;exact aA.of hl' (ht.kp (bO.below hb)) hs hok
theorem jB (h:aA w ⟨ts⟩ p)(h':aA w ⟨us⟩ q)(hs:ah (ts++us)<268435456)(hok:fZ (ts++us)):Calls Tryz.prog 326 #[hp p,hp q] w fun e w' => ∃p':HP,e=.returned (.agg #[.pointer p'.q,.int .i64 p'.n])∧aA w' ⟨ts++us⟩ p'∧Below w.heap.size w w':=by
 have g1:=h.len;have g2:=h'.len;change ts.length<_ at g1;change us.length<_ at g2;obtain ⟨ps,n,hn,hnl,hl,ht⟩:=h.list;obtain ⟨ps',n',hn',hnl',hl',ht'⟩:=h'.list;obtain ⟨q0,pn⟩:=p;obtain ⟨q1,pn'⟩:=q;change pn=(n:Int) at hn;change pn'=(n':Int) at hn';change n=ts.length at hnl;change n'=us.length at hnl';subst hn;subst hn';refine (Lt.zC hl hl' (by omega)).mono fun e w' ⟨q',m',he,hl2,hb⟩=>⟨⟨q',(m':Int)⟩,he,?_,hb⟩;exact aA.of hl2 ((ht.append ht').kp (bO.below hb)) hs hok
end
structure fD (mo:Option Nat)(W:World)(ts:List ai)(A:Option Addr)(n c:Nat):Prop where
 ex:∃ps,Row1 Lt.one W A ps∧aS W ts ps
 len:n=ts.length
 cap:n≤c
 apart:∀b,mo=some b → ∀a,A=some a→a.block≠b
section
variable {mo:Option Nat}{cc m:Int}{W W':World}{ts:List ai}{A:Option Addr}{n c:Nat}
theorem fD.bt (h:fD mo W ts A n c)(hb:Bt mo W W')(hm:aW W mo cc m):fD mo W' ts A n c:=by
 obtain ⟨ps,hr,ht⟩:=h.ex;exact ⟨⟨ps,fun h0=>(hr h0).imp fun b hb1=>hb1.imp fun o ho=>⟨ho.1,fun j hj=>hb.cell (ho.2 j hj) (fun mb e=>h.apart mb e ⟨b,o,none⟩ ho.1)⟩,ht.bt hb hm⟩,h.len,h.cap,h.apart⟩
theorem fD.stay (h:fD mo W ts A n c)(hb:Below W.heap.size W W'):fD mo W' ts A n c:=by
 obtain ⟨ps,hr,ht⟩:=h.ex;exact ⟨⟨ps,hr.stay hb,ht.kp (bO.below hb)⟩,h.len,h.cap,h.apart⟩
theorem fD.set2 (h:fD mo W ts A n c){b:Nat}{t:TypeId}{x y:Value}(hne:∀a,A=some a→a.block≠b)(hx:aB W b t x y)(ht:¬au t)(u v:Value):fD mo ((W.setCell ⟨b,0,Option.none⟩ u).setCell ⟨b,1,Option.none⟩ v) ts A n c:=by
 obtain ⟨ps,hr,hts⟩:=h.ex;exact ⟨⟨ps,fun h0=>(hr h0).imp fun b' hb1=>hb1.imp fun o ho=>⟨ho.1,fun j hj=>gG (hne ⟨b',o,none⟩ ho.1) (ho.2 j hj) u v⟩,hts.set2 hx ht u v⟩,h.len,h.cap,h.apart⟩
theorem fD.at (h:fD mo W ts A n c){j:Nat}(hj:j<n):∃b o p,A=some ⟨b,o,none⟩∧W.cell? ⟨b,o+j,none⟩=some (.pointer p)∧gQ W p (some (ts[j]'(h.len▸hj))):=by
 obtain ⟨ps,hr,ht⟩:=h.ex;have hl:=ht.length;obtain ⟨p,hp,hta⟩:=ht.at (List.getElem?_eq_getElem (h.len▸hj));obtain ⟨b,o,rfl⟩:=jW hr (by have:=h.len;omega);exact ⟨b,o,p,rfl,jP hr hp,hta⟩
theorem fD.take (h:fD mo W ts A n c)(k:Nat):∃ps,Row1 Lt.one W A ps∧aS W (ts.take k) ps:=by
 obtain ⟨ps,hr,ht⟩:=h.ex;refine ⟨ps.take k,fun h0=>?_,ht.take k⟩;rw [List.length_take]at h0;obtain ⟨b,o,e,hc⟩:=hr (by omega);refine ⟨b,o,e,fun j hj=>?_⟩;rw [List.length_take]at hj;rw [List.getElem_take];exact hc j (by omega)
end
theorem pQ {mo:Option Nat}{cc m:Int}{ts:List ai}{p:HP}{w:World}(h:aA w ⟨ts⟩ p)(hm:aW w mo cc m):Calls Tryz.prog 247 #[hp p] w fun e w' => ∃(A:Option Addr) (n c:Nat),e=.returned (.slice A n c)∧fD mo w' ts A n c∧(∀a,A=some a→w.heap.size≤a.block)∧Below w.heap.size w w':=by
 obtain ⟨ps,n,hn,hnl,hl,ht⟩:=h.list;obtain ⟨q0,pn⟩:=p;change pn=(n:Int) at hn;subst hn;refine (Lt.qK hl).mono fun e w' ⟨A,c,he,hmi,hr,hc,hb⟩=>⟨A,n,c,he,⟨⟨ps,hr,ht.kp (bO.below hb)⟩,hnl,hc,fun b e a ea=>?_⟩,fun a ea=>by subst ea;exact Mine.block hmi a.block rfl,hb⟩;subst e;subst ea;have h1:=Mine.block hmi a.block rfl;have h2:=hm.lt;omega
theorem kI (l:List ai){i:Nat}(h:0<i):cK l i=if dH (bq l i).key (bq l (cK l (i - 1))).key=true then i else cK l (i - 1):=by
 obtain ⟨j,rfl⟩:∃j,i=j+1:=⟨i - 1,by omega⟩;rfl
theorem ER (w:World):CallsD Tryz.prog 351 #[] .returning w fun e u' w'=>e=.returned (.tuple #[])∧u'=.returning∧w'=w:=by
 refine callsD_of_wpS Tryz.func351 rfl fun c₀ cs hu=>?_;apply wpS_region
 cases c₀
 simp_all [wpOpsS,go_sem,recoverD,bodyPostS,results,Tryz.ntmps351,Tryz.results351]
theorem xh (x:aN)(w:World)(hx:iI w x):Calls Tryz.prog 350 #[hv x] w fun e w'=>e=.returned (el x.key)∧Below w.heap.size w w':=by
 have hm:∀(n:Nat) (w:World),(method (n+1) 125 (.pointer (some ⟨x.a,0,none⟩)) "Key").run Tryz.prog w=.ok (212,.pointer (some ⟨x.a,0,none⟩)) w:=fun _ _=>by kernel_rfl
 have hb0:Below w.heap.size w (w.alloc (.cells #[.int .i64 0,.int .i64 0] 29)):=(Below.refl w.heap.size w).alloc (Nat.le_refl _) _;have HX:=hdz (hx.stay hb0);have HB:=hdz hb0;obtain ⟨p,q,hk⟩:∃p q,x.key=(p,q):=⟨_,_,rfl⟩;have HK:=hdz hk;clear hx hk hb0;go_enter_defers Tryz.func350,Tryz.ntmps350
 go_wp2_with fail
 ((with_reducible refine (vV x _ HX.out).mono ?_);rintro e w1 ⟨rfl,hb1⟩);rw [HK.out];have hp:=(bn.new w 0 0 29).below hb1 (by simp);have hb:=HB.out.trans (hb1.mono HB.out.size);have hs:=hp.set p q;obtain ⟨e0,e1,f0,f1, -⟩:=hp;clear hb1;clear HB HX;go_wp2_with fail
 refine leaves_cons (f := 351) (args:=#[]) (by simp) (by simp [go_sem]) ?_;refine (ER _).mono ?_;rintro e u' w'' ⟨rfl,rfl,rfl⟩;obtain ⟨k0,k1, -⟩:=hs;have hv:Below w.heap.size w ((w1.setCell ⟨w.heap.size,0,none⟩ (.int .i64 p)).setCell ⟨w.heap.size,1,none⟩ (.int .i64 q)):=(hb.setCell (Nat.le_refl _) _).setCell (Nat.le_refl _) _;simp [Leaves,settle,results,Tryz.results350,go_sem,k0,k1,hv,HK.out]
abbrev vH (W:World)(b:Nat)(t:TypeId)(v:Value):Prop:=W.heap[b]?=some (.cells #[v] t (0,0))
theorem lU {W:World}{b:Nat}{t:TypeId}{v:Value}(h:vH W b t v):W.cell? ⟨b,0,none⟩=some v:=by simp [World.cell?,h]
theorem pq {W:World}{b:Nat}{t:TypeId}{v:Value}(h:vH W b t v):W.frozen? ⟨b,0,none⟩=false:=by simp [World.frozen?,h]
theorem xw:¬au 4 := by unfold au dV;decide
structure Sk (mo:Option Nat)(W:World)(bm bl bs:Nat)(x:Int×Int)(is:Bool):Prop where
 m:vH W bm 49 (aF mo)
 l:aB W bl 29 (.int .i64 x.1) (.int .i64 x.2)
 s:vH W bs 4 (.bool is)
section
variable {W W':World}{mo:Option Nat}{c m:Int}{bm bl bs:Nat}{x:Int×Int}{is:Bool}
theorem Sk.bt (h:Sk mo W bm bl bs x is)(hb:Bt mo W W')(hm:aW W mo c m):Sk mo W' bm bl bs x is:=⟨hb.row hm h.m (by decide),h.l.bt hb hm (by decide),hb.row hm h.s (by decide)⟩
theorem Sk.stay (h:Sk mo W bm bl bs x is)(hb:Below W.heap.size W W'):Sk mo W' bm bl bs x is:=⟨(hb.block _ (lt_of_heap h.m)).trans h.m,h.l.stay hb,(hb.block _ (lt_of_heap h.s)).trans h.s⟩
end
abbrev GJ (bm bl bs:Nat):Value := .func (.func 349) #[] #[.pointer (some ⟨bs,0,none⟩),.pointer (some ⟨bm,0,none⟩),.pointer (some ⟨bl,0,none⟩)]
theorem sS (mo:Option Nat)(w:World):Calls Tryz.prog 346 #[aF mo] w fun e w' => ∃bm bl bs,e=.returned (GJ bm bl bs)∧Sk mo w' bm bl bs (0,0) false∧(w.heap.size≤bm∧w.heap.size≤bl∧w.heap.size≤bs)∧Below w.heap.size w w':=by
 have hmf:∀(fn:Fn) (first cap:Array Value) (w:World),(Instr.makeFunc fn first cap).run Tryz.prog w=.ok (.func fn first cap) w:=fun _ _ _ _=>rfl;have e1:(w.alloc (.cells #[aF mo] 49)).heap.size=w.heap.size+1:=by simp
 have e2:((w.alloc (.cells #[aF mo] 49)).alloc (.cells #[.int .i64 0,.int .i64 0] 29)).heap.size=w.heap.size+1+1:=by simp
 have hb1:Below w.heap.size w ((w.alloc (.cells #[aF mo] 49)).alloc (.cells #[.int .i64 0,.int .i64 0] 29)):=((Below.refl _ w).alloc (Nat.le_refl _) _).alloc (by simp) _;have hb2:Below w.heap.size w (((w.alloc (.cells #[aF mo] 49)).alloc (.cells #[.int .i64 0,.int .i64 0] 29)).alloc (.cells #[.bool false] 4)):=hb1.alloc (by omega) _
 have b1:vH (((w.alloc (.cells #[aF mo] 49)).alloc (.cells #[.int .i64 0,.int .i64 0] 29)).alloc (.cells #[.bool false] 4)) w.heap.size 49 (aF mo):=by
  have h:=aJ (W:=w) (o := .cells #[aF mo] 49) rfl;have h2:=(((Below.refl _ (w.alloc (.cells #[aF mo] 49))).alloc (Nat.le_refl _) (.cells #[.int .i64 0,.int .i64 0] 29)).alloc (by simp) (.cells #[.bool false] 4)).block w.heap.size (by simp);exact h2.trans h
 have b2:aB (((w.alloc (.cells #[aF mo] 49)).alloc (.cells #[.int .i64 0,.int .i64 0] 29)).alloc (.cells #[.bool false] 4)) (w.heap.size+1) 29 (.int .i64 0) (.int .i64 0):=by
  have:=(aB.new (w.alloc (.cells #[aF mo] 49)) 29 (.int .i64 0) (.int .i64 0)).alloc (.cells #[.bool false] 4);simpa only [e1] using this
 have b3:vH (((w.alloc (.cells #[aF mo] 49)).alloc (.cells #[.int .i64 0,.int .i64 0] 29)).alloc (.cells #[.bool false] 4)) (w.heap.size+1+1) 4 (.bool false):=aJ (by omega);have H:=hdz (af (show Sk mo _ w.heap.size (w.heap.size+1) (w.heap.size+1+1) (0,0) false from ⟨b1,b2,b3⟩) hb2);clear b1 b2 b3 hb1 hb2;go_enter Tryz.func346,Tryz.ntmps346
 go_wp2_with fail
 go_ret
 exact ⟨_,_,_,rfl,H.out.1,⟨Nat.le_refl _,by omega,by omega⟩,H.out.2⟩
structure Tn (mo:Option Nat)(b1 b2:Nat)(W W':World):Prop where
 os:W'.os=W.os
 tape:W'.tape=W.tape
 output:W'.output=W.output
 size:W.heap.size≤W'.heap.size
 block:∀k,k<W.heap.size→mo≠some k→k≠b1→k≠b2→W'.heap[k]?=W.heap[k]?
section
variable {W W' W'':World}{mo:Option Nat}{c m:Int}{b1 b2:Nat}{w:World}
theorem Tn.BP (h:Bt mo W W'):Tn mo b1 b2 W W':=⟨h.os,h.tape,h.output,h.size,fun k hk h1 _ _=>h.block k hk h1⟩
theorem Tn.trans (h:Tn mo b1 b2 W W')(k:Tn mo b1 b2 W' W''):Tn mo b1 b2 W W'' :=
 ⟨k.os.trans h.os,k.tape.trans h.tape,k.output.trans h.output,Nat.le_trans h.size k.size,fun i hi h1 h2 h3=>(k.block i (Nat.lt_of_lt_of_le hi h.size) h1 h2 h3).trans (h.block i hi h1 h2 h3)⟩
theorem Tn.bt (h:Tn mo b1 b2 W W')(hb:Bt mo w W)(h1:w.heap.size≤b1)(h2:w.heap.size≤b2):Bt mo w W' :=
 ⟨h.os.trans hb.os,h.tape.trans hb.tape,h.output.trans hb.output,Nat.le_trans hb.size h.size,fun k hk hm=>(h.block k (Nat.lt_of_lt_of_le hk hb.size) hm (by omega) (by omega)).trans (hb.block k hk hm)⟩
theorem Tn.set {b:Nat}(h:Tn mo b1 b2 W W')(hb:b=b1∨b=b2)(j:Nat)(v:Value):Tn mo b1 b2 W (W'.setCell ⟨b,j,none⟩ v) :=
 ⟨h.os,h.tape,h.output,by simpa [World.setCell] using h.size,fun k hk hm h1 h2=>(Below.heap_setCell W' ⟨b,j,none⟩ v k (by show k≠b;rcases hb with rfl|rfl<;>assumption)).trans (h.block k hk hm h1 h2)⟩
theorem Tn.oG {cs1 cs2:Array Value}{t1 t2:TypeId}(h:Tn mo b1 b2 W W')(hm:aW W mo c m)(h1:W.heap[b1]?=some (.cells cs1 t1 (0,0)))(h2:W.heap[b2]?=some (.cells cs2 t2 (0,0)))(n1:¬au t1)(n2:¬au t2):Kp W W':=fun k cs t ht e=>by
 refine (h.block k (lt_of_heap e) (fun em=>?_) (fun ek=>?_) (fun ek=>?_)).trans e
 ·subst em;have hm':W.heap[k]?=_:=hm;rw [hm']at e
  cases e
  exact ax ht
 ·subst ek;rw [h1]at e;cases e;exact n1 ht
 ·subst ek;rw [h2]at e;cases e;exact n2 ht
theorem fD.tn {cs1 cs2:Array Value}{t1 t2:TypeId}{ts:List ai}{A:Option Addr}{n k:Nat}(r:fD mo W ts A n k)(h:Tn mo b1 b2 W W')(hm:aW W mo c m)(h1:W.heap[b1]?=some (.cells cs1 t1 (0,0)))(h2:W.heap[b2]?=some (.cells cs2 t2 (0,0)))(n1:¬au t1)(n2:¬au t2)(ha:∀a,A=some a→a.block≠b1∧a.block≠b2):fD mo W' ts A n k:=by
 obtain ⟨ps,hr,hts⟩:=r.ex;refine ⟨⟨ps,fun h0=>(hr h0).imp fun b' hb1=>hb1.imp fun o ho=>⟨ho.1,fun j hj=>?_⟩,hts.kp (h.oG hm h1 h2 n1 n2)⟩,r.len,r.cap,r.apart⟩;have hc:=ho.2 j hj;exact (World.cell?_of_block (h.block b' (block_lt_of_cell hc) (fun e=>r.apart b' e ⟨b',o,none⟩ ho.1 rfl) (ha ⟨b',o,none⟩ ho.1).1 (ha ⟨b',o,none⟩ ho.1).2)).trans hc
end
theorem Sk.took {W w:World}{mo:Option Nat}{c m:Int}{bm bl bs:Nat}{x:Int×Int}{is:Bool}(h:Sk mo W bm bl bs x is)(hm:aW W mo c m)(ht:Tn mo bl bs w W)(hne:bs≠bl)(u1 u2:Int) :
  Sk mo (((W.setCell ⟨bl,0,none⟩ (.int .i64 u1)).setCell ⟨bl,1,none⟩ (.int .i64 u2)).setCell ⟨bs,0,none⟩ (.bool true)) bm bl bs (u1,u2) true∧aW (((W.setCell ⟨bl,0,none⟩ (.int .i64 u1)).setCell ⟨bl,1,none⟩ (.int .i64 u2)).setCell ⟨bs,0,none⟩ (.bool true)) mo c m∧Tn mo bl bs w (((W.setCell ⟨bl,0,none⟩ (.int .i64 u1)).setCell ⟨bl,1,none⟩ (.int .i64 u2)).setCell ⟨bs,0,none⟩ (.bool true)):=by
 have hm1:W.heap[bm]?=some (.cells #[aF mo] 49 (0,0)):=h.m;have hl1:W.heap[bl]?=some (.cells #[.int .i64 x.1,.int .i64 x.2] 29 (0,0)):=h.l;have hs1:W.heap[bs]?=some (.cells #[.bool is] 4 (0,0)):=h.s;have nml:bm≠bl:=fun e=>by rw [e,hl1]at hm1;cases hm1
 have nms:bm≠bs:=fun e=>by rw [e,hs1]at hm1;cases hm1
 have hsv:((W.setCell ⟨bl,0,none⟩ (.int .i64 u1)).setCell ⟨bl,1,none⟩ (.int .i64 u2)).heap[bs]?=some (.cells #[.bool is] 4 (0,0)):=(Below.heap_setCell _ ⟨bl,1,none⟩ _ bs hne).trans ((Below.heap_setCell _ ⟨bl,0,none⟩ _ bs hne).trans hs1);refine ⟨⟨?_,?_,?_⟩,?_,((ht.set (.inl rfl) 0 _).set (.inl rfl) 1 _).set (.inr rfl) 0 _⟩
 ·exact (Below.heap_setCell _ ⟨bs,0,none⟩ _ bm nms).trans ((Below.heap_setCell _ ⟨bl,1,none⟩ _ bm nml).trans ((Below.heap_setCell _ ⟨bl,0,none⟩ _ bm nml).trans hm1))
 ·exact (Below.heap_setCell _ ⟨bs,0,none⟩ _ bl (fun e=>hne e.symm)).trans (h.l.set (.int .i64 u1) (.int .i64 u2))
 ·exact heap_put (j:=0) hsv (.bool true)
 ·exact (((hm.other h.l (by decide) 0 _).other (h.l.set0 _) (by decide) 1 _).other hsv (by decide) 0 _)
theorem zD (mo:Option Nat)(c m:Int)(bm bl bs:Nat)(x:Int×Int)(is:Bool)(u:ai)(pa:Option Addr)(w:World)(hm:aW w mo c m)(h0:0≤c)(h1:c<4611686018427387904)(h:Sk mo w bm bl bs x is)(ht:gQ w pa (some u)) :
  Calls Tryz.prog 349 #[.pointer pa,.pointer (some ⟨bs,0,none⟩),.pointer (some ⟨bm,0,none⟩),.pointer (some ⟨bl,0,none⟩)] w fun e w' =>
   e=.returned (.bool (!is || dH u.x.key x))∧Sk mo w' bm bl bs (if (!is || dH u.x.key x)=true then u.x.key else x) true∧aW w' mo (c+if is=true then 1 else 0) m∧Tn mo bl bs w w':=by
 obtain ⟨ux,ubs,uks⟩:=u;have hkx:iI w ux:=by obtain ⟨b,rfl,hn⟩:=ht;exact hn.key
 obtain ⟨u1,u2,hu⟩:∃u1 u2,ux.key=(u1,u2):=⟨_,_,rfl⟩;simp only [hu];obtain ⟨x1,x2⟩:=x;have H:=hdz (af hm (af h0 (af h1 (af h ht))));have HU:=hdz hu;have HKX:=hdz hkx;clear hm h0 h1 h ht hu hkx;go_enter Tryz.func349,Tryz.ntmps349
 go_wp2_with fail
 ((with_reducible refine (Go.Proofs.YtmeodbjlmjpnbaaGreat.U.kU pa (some ⟨ux,ubs,uks⟩) _ H.out.2.2.2.2).mono ?_);rintro e w2 ⟨rfl,hb2⟩);rw [show lG (some ⟨ux,ubs,uks⟩)=.tuple #[hv ux,.bool true] from rfl];have hb3:=hb2;have S3:=hdz (H.out.2.2.2.1.stay hb3);have M3:=hdz (H.out.1.stay hb3);have T3:=hdz (Tn.BP (b1:=bl) (b2:=bs) (Bt.aV (mo:=mo) hb3));have HCC:=hdz (af H.out.2.1 H.out.2.2.1);have HK3:=hdz (HKX.out.stay hb3);clear hb2 hb3 H HKX;go_wp2_with fail
 ((with_reducible refine (xh ux _ HK3.out).mono ?_);rintro e w4 ⟨rfl,hb4⟩);rw [HU.out];have hb5:=hb4.alloc hb4.size (.cells #[.int .i64 u1,.int .i64 u2] 29);have S5:=hdz (S3.out.stay hb5);have M5:=hdz (M3.out.stay hb5);have T5:=hdz (T3.out.trans (Tn.BP (Bt.aV (mo:=mo) hb5)));have B5:=hdz (aB.new w4 29 (.int .i64 u1) (.int .i64 u2));have HLT:=hdz (show bl<w4.heap.size∧bs<w4.heap.size from ⟨Nat.lt_of_lt_of_le S3.out.l.lt hb4.size,Nat.lt_of_lt_of_le (lt_of_heap S3.out.s) hb4.size⟩);have HNE:=hdz (show bs≠bl from fun e=>by have h1:w2.heap[bs]?=_:=S3.out.s;have h2:w2.heap[bl]?=_:=S3.out.l;rw [e,h2]at h1;cases h1);clear hb4 hb5 S3 M3 T3;have b0:=B5.out.c0;have b1:=B5.out.c1;have s0:=lU S5.out.s;have z0:=S5.out.l.z0;have z1:=S5.out.l.z1;have y0:=S5.out.l.c0;have y1:=S5.out.l.c1;have sz:=pq S5.out.s;have n1:¬bs=bl:=HNE.out;have n2:¬bl=bs:=fun e=>HNE.out e.symm;have n3:¬w4.heap.size=bl:=by have:=HLT.out;omega
 have n4:¬bl=w4.heap.size:=by have:=HLT.out;omega
 have m0:=lU S5.out.m
 cases is with
 | false =>
  go_wp2_with fail
  go_ret
  obtain ⟨k1,k2,k3⟩:=S5.out.took M5.out T5.out HNE.out u1 u2;exact ⟨rfl,k1,by simpa using k2,k3⟩
 | true =>
  go_wp2_with fail
  ((with_reducible refine (lM mo c m (u1,u2) (x1,x2) _ M5.out HCC.out.1 HCC.out.2).mono ?_);rintro e w6 ⟨rfl,Iy,hb6⟩);have S6:=hdz (S5.out.bt hb6 M5.out);have M6:=hdz Iy;have T6:=hdz (T5.out.trans (Tn.BP hb6));have B6:=hdz (B5.out.bt hb6 M5.out (by decide));clear Iy hb6 b0 b1 s0 z0 z1 y0 y1 sz m0 B5 S5 M5 T5;have b0:=B6.out.c0;have b1:=B6.out.c1;have z0:=S6.out.l.z0;have z1:=S6.out.l.z1;have y0:=S6.out.l.c0;have y1:=S6.out.l.c1;have s0:=lU S6.out.s;have sz:=pq S6.out.s
  cases hv:dH (u1,u2) (x1,x2) with
  | true =>
   go_wp2_with fail
   go_ret
   obtain ⟨k1,k2,k3⟩:=S6.out.took M6.out T6.out HNE.out u1 u2;exact ⟨rfl,k1,k2,k3⟩
  | false =>
   go_wp2_with fail
   go_ret
   exact ⟨rfl,S6.out,M6.out,T6.out⟩
end Go.Proofs.YtmeodbjlmjpnbaaGreat.U.Hp
namespace Go.Proofs.YtmeodbjlmjpnbaaGreat.U.Hp
open Go.Sort Go.RowKit Go.Proofs.YtmeodbjlmjpnbaaGreat.U.Gn
theorem fK (mo:Option Nat)(c m:Int)(t:Lh)(p:HP)(w:World)(hm:aW w mo c m)(h0:0≤c)(h1:c<1152921504606846976)(h:aA w t p) :
  Calls Tryz.prog 336 #[hp p,aF mo] w fun e w'=>e=.returned (.int .i64 (ak t.ts:Nat))∧aW w' mo (c+t.bT) m∧Bt mo w w':=by
 obtain ⟨ts⟩:=t;have hlen:=h.len;change ts.length<_ at hlen;have hb1:Below w.heap.size w (w.alloc (.cells #[.pointer p.q,.int .i64 p.n] 257)):=(Below.refl _ w).alloc (Nat.le_refl _) _;have HX:=hdz (aB.new w 257 (.pointer p.q) (.int .i64 p.n));have H:=hdz (af (h.stay hb1) (af (Bt.aV (mo:=mo) hb1) (af (hm.stay hb1) (af h0 (af h1 hlen)))));clear h hm hb1 h0 h1 hlen;go_enter Tryz.func336,Tryz.ntmps336
 go_wp2_with fail
 ((with_reducible refine (sS mo _).mono ?_);rintro e w2 ⟨bm,bl,bs,rfl,hS,hL,hb2⟩);have B2:=hdz (HX.out.stay hb2);have c0:=B2.out.c0;have c1:=B2.out.c1;have H2:=hdz (af (H.out.1.stay hb2) (af (H.out.2.1.trans (Bt.aV hb2)) (af (H.out.2.2.1.stay hb2) hS)));have HB:=hdz (show w.heap.size≤bl∧w.heap.size≤bs from ⟨Nat.le_trans (by simp) hL.2.1,Nat.le_trans (by simp) hL.2.2⟩);have HN0:=hdz H.out.2.2.2;clear hS hL hb2 HX H;go_wp2_with fail
 ((with_reducible refine (pQ H2.out.1 H2.out.2.2.1).mono ?_);rintro e w3 ⟨A,n,ca,rfl,hr,hab,hb3⟩);have X:=hdz (af hr (af (H2.out.2.1.trans (Bt.aV hb3)) (af (H2.out.2.2.1.stay hb3) (H2.out.2.2.2.stay hb3))));have hn:n=ts.length:=hr.len;have HN:=hdz hn;have HAB:=hdz (show ∀a,A=some a→a.block≠bl∧a.block≠bs from fun a ea=>by have h1:=hab a ea;have h2:=H2.out.2.2.2.l.lt;have h3:=lt_of_heap H2.out.2.2.2.s;omega);clear hr hb3 hn hab c0 c1 H2 B2;go_wp2_with fail
 go_loopg [5,15] n (fun k s iv wr => ∃(i pl:Nat) (x:Int×Int),iv=.int .i64 (i:Int)∧s=.int .i64 (pl:Int)∧i+k=n∧Sk mo wr bm bl bs x (decide (0<i))∧(pl=cK ts (i - 1))∧(0<i→x=(bq ts pl).key)∧Bt mo w wr∧fD mo wr ts A n ca∧aW wr mo (c+((i - 1:Nat):Int)) m)
 case atStart=>exact ⟨0,0,(0,0),rfl,rfl,by omega,X.out.2.2.2,rfl,fun h=>absurd h (by omega),X.out.2.1,X.out.1,by simpa using X.out.2.2.1⟩
 case round =>
  obtain ⟨i,pl,⟨x1,x2⟩,rfl,rfl,hi,hsk,hpl,hx,hbt,htr,hm⟩:=hrel;by_cases hlt:i<n
  ·obtain ⟨bA,oA,pa,rfl,hcell,hta⟩:=htr.at hlt;have g1:decide ((i:Int)<(n:Int))=true:=by simp;omega
   have g2:(i:Int)<(n:Int):=by omega
   have g3:(0:Int)≤(i:Int):=by omega
   have hil:i<ts.length:=by have:=HN.out;omega
   have hroot:bq ts i=(ts[i]).x:=by unfold bq;rw [List.getElem?_eq_getElem hil]
   generalize ts[i]=u at *;have hw2:IntKind.i64.wrap ((i:Int)+1)=((i+1:Nat):Int):=by have:=HN.out;have:=HN0.out;rw [IntKind.wrap_i64];omega
   have hw3:wrap64 ((i:Int)+1)=((i+1:Nat):Int):=by have:=HN.out;have:=HN0.out;unfold wrap64;omega
   obtain ⟨r,hrr⟩:=aU ((!(decide (0<i)) || dH u.x.key (x1,x2)));have Y:=hdz (af hi (af hsk (af hpl (af hx (af hbt (af htr (af hm (af hta (af hroot hrr)))))))));clear hi hsk hpl hx hbt htr hm hta hil hroot hrr;go_wp2_with fail
   ((with_reducible refine (zD mo (c+((i - 1:Nat):Int)) m bm bl bs (x1,x2) (decide (0<i)) u pa _ Y.out.2.2.2.2.2.2.1 (by have:=HN0.out;omega) (by have:=HN0.out;have:=HN.out;omega) Y.out.2.1 Y.out.2.2.2.2.2.2.2.1).mono ?_);rintro e w5 ⟨rfl,hs5,Im,Ip⟩);rw [←Y.out.2.2.2.2.2.2.2.2.2]at hs5 ⊢
   have hstep:0<i→cK ts i=if r=true then i else pl:=fun h0=>by
    rw [kI ts h0,Y.out.2.2.2.2.2.2.2.2.1,←Y.out.2.2.1,←Y.out.2.2.2.1 h0,Y.out.2.2.2.2.2.2.2.2.2];simp [h0]
   have hzero:¬0<i→i=0∧r=true:=fun h0=>⟨by omega,by rw [Y.out.2.2.2.2.2.2.2.2.2];simp [h0]⟩
   have hmm:aW w5 mo (c+((i+1 - 1:Nat):Int)) m:=by
    have e:c+((i+1 - 1:Nat):Int)=c+((i - 1:Nat):Int)+(if decide (0<i)=true then 1 else 0):=by
     by_cases h0:0<i
     ·simp only [h0,decide_true,if_true];omega
     ·simp only [h0,decide_false];simp;omega
    rw [e];exact Im
   have hb5:=Ip.bt Y.out.2.2.2.2.1 HB.out.1 HB.out.2;have htr5:=Y.out.2.2.2.2.2.1.tn Ip Y.out.2.2.2.2.2.2.1 Y.out.2.1.l Y.out.2.1.s iN xw HAB.out;have Z:=hdz (af hs5 (af hstep (af hzero (af hmm (af hb5 htr5)))));clear hs5 hstep hzero hmm hb5 htr5 Im Ip hcell
   cases r with
   | true =>
    go_wp2_with fail
    go_roundg (n - 1 - i)
    case measure=>have:=Y.out.1;omega
    case rel =>
     refine ⟨i+1,i,u.x.key,rfl,rfl,by have:=Y.out.1;omega,by have:=Z.out.1;simpa using this,?_,fun _=>congrArg aN.key Y.out.2.2.2.2.2.2.2.2.1.symm,Z.out.2.2.2.2.1,Z.out.2.2.2.2.2,Z.out.2.2.2.1⟩;rw [show i+1 - 1=i from rfl];by_cases h0:0<i
     ·rw [Z.out.2.1 h0];rfl
     ·obtain ⟨h1, -⟩:=Z.out.2.2.1 h0;subst h1;rfl
   | false =>
    have hpos:0<i:=by
     by_cases h0:0<i
     ·exact h0
     ·have h1:=(Z.out.2.2.1 h0).2;cases h1
    go_wp2_with fail
    go_roundg (n - 1 - i)
    case measure=>have:=Y.out.1;omega
    case rel =>
     refine ⟨i+1,pl,(x1,x2),rfl,rfl,by have:=Y.out.1;omega,by have:=Z.out.1;simpa using this,?_,fun _=>Y.out.2.2.2.1 hpos,Z.out.2.2.2.2.1,Z.out.2.2.2.2.2,Z.out.2.2.2.1⟩;rw [show i+1 - 1=i from rfl,Z.out.2.1 hpos];rfl
  ·have hin:i=n:=by omega
   have g1:decide ((i:Int)<(n:Int))=false:=by simp;omega
   have g2:¬(i:Int)<(n:Int):=by omega
   have hfin:pl=ak ts:=by rw [hpl];unfold ak;rw [hin,HN.out]
   have hct:((i - 1:Nat):Int)=((Lh.mk ts).bT:Nat):=by show _=((ts.length - 1:Nat):Int);rw [hin,HN.out]
   have Y:=hdz (af hbt (show aW wr mo (c+(Lh.mk ts).bT) m from hct▸hm));clear hi hsk hpl hx hbt htr hm;go_wp2_with fail
   go_ret
   exact ⟨by first|rfl|rw [hfin],Y.out.2,Y.out.1⟩
end Go.Proofs.YtmeodbjlmjpnbaaGreat.U.Hp
