/- Skew binomial heaps in memory: a list of trees' addresses; they stay where no block of the trees' types nor of the list's turns. No conditions beyond what each theorem says. -/
import Derived.Test.YtmeodbjlmjpnbaaGreatPua
import Derived.Deep.LoopGhost
import Derived.Deep.RegionHeld3
import Derived.Deep.DrawnRows
import Derived.Defers
import Derived.Recover
set_option maxRecDepth 100000
set_option maxHeartbeats 4000000
namespace Go.Proofs.YtmeodbjlmjpnbaaGreat.U.Hp
open Go.Sort Go.RowKit Go.Proofs.YtmeodbjlmjpnbaaGreat.U.Gn
structure HP where
 q:Option Addr
 n:Int
abbrev hp (p:HP):Value := .agg #[.pointer p.q,.int .i64 p.n]
def NodeT (t:TypeId):Prop:=TreeT t ∨ t = 318
abbrev Kp (W W':World):Prop:=Kpt NodeT W W'
theorem node_ne:¬ NodeT 89 := by unfold NodeT TreeT;decide
theorem elemT_ne:¬ NodeT 29 := by unfold NodeT TreeT;decide
theorem heapT_ne:¬ NodeT 257 := by unfold NodeT TreeT;decide
theorem listT_ne:¬ NodeT 255 := by unfold NodeT TreeT;decide
section
variable {W W':World}
theorem Kp.tree (h:Kp W W'):Go.Proofs.YtmeodbjlmjpnbaaGreat.U.Kp W W':=fun k cs t ht e => h k cs t (.inl ht) e
theorem ch_kp (h:Kp W W'):∀ {m m':Nat} {p:Option Addr} {xs:List (Option Addr)},W.heap.size ≤ W'.heap.size → m ≤ W.heap.size → m' = W'.heap.size → Chain Lt.one 318 m W p xs → Chain Lt.one 318 m' W' p xs
 | _,_,_,[],_,_,_,hl => hl
 | _,_,_,_ :: _,hs,hm,he,⟨b,q,hp,hb,hv,hr⟩ => ⟨b,q,hp,by omega,h _ _ _ (.inr rfl) hv,ch_kp h hs hm he hr⟩
def TsAt (W:World):List Tre → List (Option Addr) → Prop
 | [],ps => ps = []
 | t :: ts,ps => ∃ p ps',ps = p :: ps' ∧ TAt W p (some t) ∧ TsAt W ts ps'
theorem TsAt.kp (h:Kp W W'):∀ {ts:List Tre} {ps:List (Option Addr)},TsAt W ts ps → TsAt W' ts ps
 | [],_,hp => hp
 | _ :: _,_,⟨p,ps',e,h1,h2⟩ => ⟨p,ps',e,h1.kp h.tree,TsAt.kp h h2⟩
theorem TsAt.length:∀ {ts:List Tre} {ps:List (Option Addr)},TsAt W ts ps → ps.length = ts.length
 | [],_,h => by rw [h];rfl
 | _ :: _,_,⟨_,_,e,_,h⟩ => by rw [e,List.length_cons,h.length,List.length_cons]
theorem TsAt.at:∀ {ts:List Tre} {ps:List (Option Addr)} {j:Nat} {t:Tre},TsAt W ts ps → ts[j]? = some t → ∃ p,ps[j]? = some p ∧ TAt W p (some t)
 | [],_,_,_,_,h => by simp at h
 | u :: _,_,0,t,⟨p,ps',e,h1,_⟩,h => by
  have:u = t:=by simpa using h
  subst this;subst e;exact ⟨p,rfl,h1⟩
 | _ :: _,_,j + 1,t,⟨p,ps',e,_,h2⟩,h => by
  subst e;obtain ⟨q,hq,ht⟩:=TsAt.at (j:=j) h2 (by simpa using h);exact ⟨q,by simpa using hq,ht⟩
theorem TsAt.append:∀ {ts us:List Tre} {ps qs:List (Option Addr)},TsAt W ts ps → TsAt W us qs → TsAt W (ts ++ us) (ps ++ qs)
 | [],_,_,_,h,k => by rw [h];exact k
 | _ :: _,_,_,_,⟨p,ps',e,h1,h2⟩,k => by rw [e];exact ⟨p,ps' ++ _,rfl,h1,TsAt.append h2 k⟩
theorem TsAt.one {t:Tre} {p:Option Addr} (h:TAt W p (some t)):TsAt W [t] [p]:=⟨p,[],rfl,h,rfl⟩
theorem TsAt.reverse:∀ {ts:List Tre} {ps:List (Option Addr)},TsAt W ts ps → TsAt W ts.reverse ps.reverse
 | [],_,h => by rw [h];rfl
 | t :: ts,_,⟨p,ps',e,h1,h2⟩ => by
  rw [e,List.reverse_cons,List.reverse_cons];exact TsAt.append (TsAt.reverse h2) (TsAt.one h1)
theorem TsAt.take:∀ {ts:List Tre} {ps:List (Option Addr)} (k:Nat),TsAt W ts ps → TsAt W (ts.take k) (ps.take k)
 | [],_,k,h => by rw [h];simp [TsAt]
 | _ :: _,_,0,_ => by simp [TsAt]
 | _ :: _,_,k + 1,⟨p,ps',e,h1,h2⟩ => by rw [e];exact ⟨p,ps'.take k,rfl,h1,TsAt.take k h2⟩
theorem TsAt.drop:∀ {ts:List Tre} {ps:List (Option Addr)} (k:Nat),TsAt W ts ps → TsAt W (ts.drop k) (ps.drop k)
 | [],_,k,h => by rw [h];simp [TsAt]
 | _ :: _,_,0,h => h
 | _ :: _,_,k + 1,⟨p,ps',e,h1,h2⟩ => by rw [e];exact TsAt.drop k h2
theorem TsAt.tail {ts:List Tre} {ps:List (Option Addr)} (h:TsAt W ts ps):TsAt W ts.tail ps.tail:=by
 have:=h.drop 1;rwa [List.drop_one,List.drop_one] at this
theorem KAt.ts:∀ {ks:Wood} {ps:List (Option Addr)},KAt W ks ps → TsAt W ks.list ps
 | .nil,_,h => h
 | .cons _ _ _ _,_,⟨_,ps',e,hn,h⟩ => ⟨_,ps',e,⟨_,rfl,hn⟩,KAt.ts h⟩
def LAt (W:World) (t:Lh) (p:HP):Prop:=∃ ps,Ch Lt.one 318 W p.q ps ∧ TsAt W t.ts ps ∧ p.n = (t.ts.length:Nat) ∧ t.size < 268435456 ∧ t.ok
theorem LAt.kps {t:Lh} {p:HP} (hn:LAt W t p) (h:Kp W W') (hs:W.heap.size ≤ W'.heap.size):LAt W' t p:=by
 obtain ⟨ps,h1,h2,h3⟩:=hn;exact ⟨ps,ch_kp h hs (Nat.le_refl _) rfl h1,h2.kp h,h3⟩
theorem LAt.stay {t:Lh} {p:HP} (hn:LAt W t p) (h:Below W.heap.size W W'):LAt W' t p:=hn.kps (Kpt.below h) h.size
theorem LAt.small {t:Lh} {p:HP} (hn:LAt W t p):t.size < 268435456:=by obtain ⟨_,_,_,_,h,_⟩:=hn;exact h
theorem LAt.right {t:Lh} {p:HP} (hn:LAt W t p):t.ok:=by obtain ⟨_,_,_,_,_,h⟩:=hn;exact h
theorem LAt.len {t:Lh} {p:HP} (hn:LAt W t p):t.ts.length < 268435456:=by have:=hn.small;have:=trees_size t;omega
theorem LAt.list {t:Lh} {p:HP} (hn:LAt W t p):∃ (ps:List (Option Addr)) (n:Nat),p.n = (n:Int) ∧ n = t.ts.length ∧ Lt.LL W p.q n ps ∧ TsAt W t.ts ps:=by
 have hl:=hn.len;obtain ⟨ps,h1,h2,h3,h4,h5⟩:=hn;exact ⟨ps,t.ts.length,h3,rfl,⟨h1,h2.length.symm,by omega⟩,h2⟩
theorem LAt.of {ts:List Tre} {q:Option Addr} {n:Nat} {ps:List (Option Addr)} (hl:Lt.LL W q n ps) (ht:TsAt W ts ps) (hs:bSize ts < 268435456) (hk:sOk ts):LAt W ⟨ts⟩ ⟨q,(n:Int)⟩ :=
 ⟨ps,hl.1,ht,by show (n:Int) = _;rw [hl.2.1,ht.length],hs,hk⟩
theorem LAt.nil (W:World):LAt W .nil ⟨none,0⟩:=⟨[],Ch.none W,rfl,rfl,by decide,sok_nil⟩
theorem LAt.no {p:HP} (h:LAt W .nil p):p = ⟨none,0⟩:=by
 obtain ⟨q,n⟩:=p;obtain ⟨ps,h1,h2,h3, -⟩:=h;obtain rfl:ps = []:=h2;have h4:q = none:=h1;have h5:n = 0:=h3;rw [h4,h5]
end
def Gave (mo:Option Nat) (c m:Int) (t:Lh) (w:World) (e:Ending) (w':World):Prop:=∃ p:HP,e = .returned (.agg #[.pointer p.q,.int .i64 p.n]) ∧ LAt w' t p ∧ MAt w' mo c m ∧ Bt mo w w'
section
variable {W W':World} {mo:Option Nat} {c m:Int}
theorem Kp.bt (hb:Bt mo W W') (hm:MAt W mo c m):Kp W W':=hb.kpt hm node_ne
theorem LAt.bt {t:Lh} {p:HP} (h:LAt W t p) (hb:Bt mo W W') (hm:MAt W mo c m):LAt W' t p:=h.kps (hb.kpt hm node_ne) hb.size
theorem TsAt.bt {ts:List Tre} {ps:List (Option Addr)} (h:TsAt W ts ps) (hb:Bt mo W W') (hm:MAt W mo c m):TsAt W' ts ps:=h.kp (hb.kpt hm node_ne)
end
end Go.Proofs.YtmeodbjlmjpnbaaGreat.U.Hp
namespace Go.Proofs.YtmeodbjlmjpnbaaGreat.U.Hp
open Go.Sort Go.RowKit Go.Proofs.YtmeodbjlmjpnbaaGreat.U.Gn
section
variable {W W':World} {mo:Option Nat} {c m:Int} {b:Nat} {t:TypeId} {x y:Value}
theorem Kp.set2 (h:Box2 W b t x y) (ht:¬ NodeT t) (u v:Value):Kp W ((W.setCell ⟨b,0,none⟩ u).setCell ⟨b,1,none⟩ v):=(Kpt.set h ht 0 u).trans (Kpt.set (h.set0 u) ht 1 v)
theorem size_set2 (W:World) (b:Nat) (u v:Value):((W.setCell ⟨b,0,none⟩ u).setCell ⟨b,1,none⟩ v).heap.size = W.heap.size:=by simp [World.setCell]
theorem LAt.set2 {l:Lh} {p:HP} (hl:LAt W l p) (h:Box2 W b t x y) (ht:¬ NodeT t) (u v:Value):LAt ((W.setCell ⟨b,0,none⟩ u).setCell ⟨b,1,none⟩ v) l p:=hl.kps (Kp.set2 h ht u v) (by rw [size_set2];exact Nat.le_refl _)
theorem TsAt.set2 {ts:List Tre} {ps:List (Option Addr)} (hl:TsAt W ts ps) (h:Box2 W b t x y) (ht:¬ NodeT t) (u v:Value):TsAt ((W.setCell ⟨b,0,none⟩ u).setCell ⟨b,1,none⟩ v) ts ps:=hl.kp (Kp.set2 h ht u v)
theorem ll_set2 {q:Option Addr} {n:Nat} {ps:List (Option Addr)} (hl:Lt.LL W q n ps) (h:Box2 W b t x y) (ht:¬ NodeT t) (u v:Value):Lt.LL ((W.setCell ⟨b,0,none⟩ u).setCell ⟨b,1,none⟩ v) q n ps:=⟨ch_kp (Kp.set2 h ht u v) (by rw [size_set2];exact Nat.le_refl _) (Nat.le_refl _) rfl hl.1,hl.2⟩
end
theorem tail_ok {t:Tre} {ts:List Tre} (h:sOk (t :: ts)):sOk ts:=⟨fun u hu => h.hok u (List.mem_cons_of_mem _ hu),fun u hu => h.sk u (List.mem_cons_of_mem _ hu),upto_of h.up.2⟩
abbrev rises (l:List Tre):Prop:=l.Pairwise (fun a b => a.rank < b.rank)
theorem up_sub:∀ {us ts:List Tre},upto ts → us.Sublist ts → upto us
 | [],_,_,_ => trivial
 | u :: us,[],_,h => by cases h
 | u :: us,t :: ts,⟨h1,h2⟩,h => by
  cases h with
  | cons _ h => exact upto_of (h2.sublist h)
  | cons_cons _ h => exact ⟨fun v hv => h1 v (h.subset hv),h2.sublist h⟩
theorem sub_ok {us ts:List Tre} (h:sOk ts) (hs:us.Sublist ts):sOk us:=⟨fun u hu => h.hok u (hs.subset hu),fun u hu => h.sk u (hs.subset hu),up_sub h.up hs⟩
theorem rest_any (t:Tre) (ts:List Tre) (p:HP) (w:World) (h:LAt w ⟨t :: ts⟩ p):Calls Tryz.prog 339 #[hp p] w fun e w' => ∃ p':HP,e = .returned (.agg #[.pointer p'.q,.int .i64 p'.n]) ∧ LAt w' ⟨ts⟩ p' ∧ Below w.heap.size w w':=by
 have hs:=h.small;obtain ⟨ps,n,hn,hnl,hl,ht⟩:=h.list;obtain ⟨q,pn⟩:=p;change pn = (n:Int) at hn;subst hn;have hb1:Below w.heap.size w ((w.alloc (.cells #[.pointer q,.int .i64 (n:Int)] 257)).alloc (.cells #[.pointer none,.int .i64 0] 257)):=((Below.refl _ w).alloc (Nat.le_refl _) _).alloc (by simp) _;have bR:=Box2.new (w.alloc (.cells #[.pointer q,.int .i64 (n:Int)] 257)) 257 (.pointer none) (.int .i64 0);simp only [World.size_alloc] at bR;have H:=hdz (anz (hl.stay hb1) (anz (ht.kp (Kpt.below hb1)) (anz hb1 (anz bR (anz hs h.right)))));clear h hl ht hb1 bR hs hnl;go_enter Tryz.func339,Tryz.ntmps339
 go_wp2_with fail
 ((with_reducible refine (Lt.rest_l H.out.1).mono ?_);rintro e w2 ⟨q2,n2,rfl,hl2,hb2⟩);have B2:=H.out.2.2.2.1.stay hb2;have c0:=B2.c0;have c1:=B2.c1;have z0:=B2.z0;have z1:=B2.z1;have X:=hdz (anz B2 (anz hl2 (anz (H.out.2.1.kp (Kpt.below hb2)) (H.out.2.2.1.trans (hb2.mono H.out.2.2.1.size)))));clear B2 hl2 hb2;go_wp2_with fail
 have S:=X.out.1.set (.pointer q2) (.int .i64 (n2:Int));have d0:=S.c0;have d1:=S.c1;refine bodyPost_ret (v:=hp ⟨q2,(n2:Int)⟩) (by simp [results,Tryz.results339,go_sem,d0,d1]) rfl ⟨⟨q2,(n2:Int)⟩,rfl,?_,below_set2 X.out.2.2.2 (by omega) _ _⟩;exact LAt.of (ll_set2 X.out.2.1 X.out.1 heapT_ne _ _) (X.out.2.2.1.tail.set2 X.out.1 heapT_ne _ _) (by have h1:=H.out.2.2.2.2.1;simp only [Lh.size,bSize] at h1;omega) (tail_ok H.out.2.2.2.2.2)
theorem bSize_take_le (l:List Tre) (i:Nat):bSize (l.take i) ≤ bSize l:=by
 have e:∀ a b:List Tre,bSize (a ++ b) = bSize a + bSize b:=fun a b => by
  induction a with
  | nil => simp [bSize]
  | cons t r ih => simp only [List.cons_append,bSize,ih];omega
 conv => rhs;rw [← List.take_append_drop i l]
 rw [e];omega
theorem row_ptr {W:World} {b o:Nat} {ps:List (Option Addr)} (h:Row1 Lt.one W (some ⟨b,o,none⟩) ps) {j:Nat} {p:Option Addr} (hj:ps[j]? = some p):W.cell? ⟨b,o + j,none⟩ = some (.pointer p):=by
 obtain ⟨hlt,rfl⟩:=List.getElem?_eq_some_iff.1 hj;obtain ⟨b',o',e,hc⟩:=h (by omega)
 cases e
 exact hc j hlt
theorem row_some {W:World} {A:Option Addr} {ps:List (Option Addr)} (h:Row1 Lt.one W A ps) (h0:0 < ps.length):∃ b o,A = some ⟨b,o,none⟩:=by
 obtain ⟨b,o,e, -⟩:=h h0;exact ⟨b,o,e⟩
end Go.Proofs.YtmeodbjlmjpnbaaGreat.U.Hp
namespace Go.Proofs.YtmeodbjlmjpnbaaGreat.U.Hp
open Go.Sort Go.RowKit Go.Proofs.YtmeodbjlmjpnbaaGreat.U.Gn
theorem len_bSize:∀ l:List Tre,l.length ≤ bSize l
 | [] => Nat.le_refl _
 | t :: r => by have:=len_bSize r;simp only [List.length_cons,bSize,Gn.Tre.size];omega
theorem rank_at {W:World} {p:Option Addr} {t:Tre} (h:TAt W p (some t)) (r:Nat) (hr:r = t.rank):Calls Tryz.prog 161 #[.pointer p] W fun e w' => e = .returned (.int .i64 (r:Int)) ∧ w' = W :=
 (Go.Proofs.YtmeodbjlmjpnbaaGreat.U.rank_any p (some t) W h).mono fun _ _ ⟨he,hw⟩ => ⟨by rw [he,hr];rfl,hw⟩
theorem field_h:∀ (x:Option Addr) (y:Int) (w:World),(Instr.field 257 (.agg #[.pointer x,.int .i64 y]) 0).run Tryz.prog w = .ok (.agg #[.pointer x,.int .i64 y]) w:=fun _ _ _ => by kernel_rfl
theorem first_h {t:Tre} {ts:List Tre} {p:HP} {w:World} (h:LAt w ⟨t :: ts⟩ p):∃ a,TAt w a (some t) ∧ Calls Tryz.prog 159 #[hp p] w fun e w' => e = .returned (.tuple #[.pointer a,.bool true]) ∧ Below w.heap.size w w':=by
 obtain ⟨ps,h1,⟨a,ps',rfl,h2,h2'⟩,h3,h4⟩:=h;exact ⟨a,h2,Lt.first_cons p.q a ps' p.n w h1⟩
theorem first_0 {p:HP} {w:World} (h:LAt w .nil p):Calls Tryz.prog 159 #[hp p] w fun e w' => e = .returned (.tuple #[.pointer none,.bool false]) ∧ Below w.heap.size w w':=by
 obtain rfl:=h.no;exact Lt.first_nil 0 w
theorem push_h {t:Tre} {ts:List Tre} {p:HP} {a:Option Addr} {w:World} (h:LAt w ⟨ts⟩ p) (ht:TAt w a (some t)) (hs:t.size + bSize ts < 268435456) (hk:sOk (t :: ts)):Calls Tryz.prog 163 #[hp p,.pointer a] w fun e w' => ∃ p':HP,e = .returned (.agg #[.pointer p'.q,.int .i64 p'.n]) ∧ LAt w' ⟨t :: ts⟩ p' ∧ Below w.heap.size w w':=by
 have hlen:=h.len;obtain ⟨ps,n,hn,hnl,hl,hts⟩:=h.list;change n = ts.length at hnl;change ts.length < _ at hlen;obtain ⟨q,pn⟩:=p;change pn = (n:Int) at hn;subst hn;refine (Lt.push_l a hl (by omega)).mono fun e w' ⟨q',n',he,hl',hb⟩ => ⟨⟨q',(n':Int)⟩,he,?_,hb⟩;exact LAt.of (ts:=t :: ts) hl' ⟨a,ps,rfl,ht.stay hb,hts.kp (Kpt.below hb)⟩ hs hk
theorem push_ok {t:Tre} {ts:List Tre} (h1:t.hok) (h2:t.sk) (h:sOk ts) (hlow:∀ x ∈ ts,t.rank ≤ x.rank) (hr:rises ts):sOk (t :: ts) :=
 ⟨fun u hu => by rcases List.mem_cons.1 hu with rfl | hu;exact h1;exact h.hok u hu,fun u hu => by rcases List.mem_cons.1 hu with rfl | hu;exact h2;exact h.sk u hu,⟨hlow,hr⟩⟩
structure F2 (W:World) (a:Nat) (p:HP):Prop where
 h:Box2 W a 257 (.pointer p.q) (.int .i64 p.n)
 r:Box2 W (a + 1) 257 (.pointer none) (.int .i64 0)
section
variable {W W':World} {a:Nat} {p q:HP} {mo:Option Nat} {c m:Int}
theorem F2.new (w:World) (p:HP):F2 ((w.alloc (.cells #[.pointer p.q,.int .i64 p.n] 257)).alloc (.cells #[.pointer none,.int .i64 0] 257)) w.heap.size p:=by
 refine ⟨(Box2.new w 257 _ _).alloc _,?_⟩;have:=Box2.new (w.alloc (.cells #[.pointer p.q,.int .i64 p.n] 257)) 257 (.pointer none) (.int .i64 0);simpa only [World.size_alloc] using this
theorem F2.stay (h:F2 W a p) (hb:Below W.heap.size W W'):F2 W' a p:=⟨h.h.stay hb,h.r.stay hb⟩
theorem F2.bt (h:F2 W a p) (hb:Bt mo W W') (hm:MAt W mo c m):F2 W' a p:=⟨h.h.bt hb hm (by decide),h.r.bt hb hm (by decide)⟩
end
theorem new2_below (w:World) (x y:Obj):Below w.heap.size w ((w.alloc x).alloc y):=((Below.refl _ w).alloc (Nat.le_refl _) _).alloc (by simp) _
def AheadTo (mo:Option Nat) (ts:List Tre):Prop:=∀ (c m:Int) (t:Tre) (pa:Option Addr) (p:HP) (w:World),t.size + bSize ts < 268435456 → MAt w mo c m → 0 ≤ c → c + ts.length < 1152921504606846976 → 0 ≤ m → m + ts.length < 1152921504606846976 →
  LAt w ⟨ts⟩ p → rises ts → TAt w pa (some t) → t.hok → t.sk → (∀ x ∈ ts,t.rank ≤ x.rank) →
  Calls Tryz.prog 335 #[hp p,mAddr mo,.pointer pa] w (Gave mo (c + putTN ts t) (m + putTN ts t) ⟨putT ts t⟩ w)
theorem ahead_nil (mo:Option Nat):AheadTo mo []:=by
 intro c m t pa p w hs hm h0 h1 h2 h3 hl hr ht hk1 hk2 hlow;have HF:=hdz (F2.new w p);have KK:=hdz ((Trk.refl (N:=NodeT) hm).stay (new2_below w (.cells #[.pointer p.q,.int .i64 p.n] 257) (.cells #[.pointer none,.int .i64 0] 257)));have HL:=hdz (anz (hl.stay (new2_below w (.cells #[.pointer p.q,.int .i64 p.n] 257) (.cells #[.pointer none,.int .i64 0] 257))) (ht.stay (new2_below w (.cells #[.pointer p.q,.int .i64 p.n] 257) (.cells #[.pointer none,.int .i64 0] 257))));have HN:=hdz (anz hs (anz h0 (anz h1 (anz h2 h3))));have HO:=hdz (anz (show sOk [] from hl.right) (anz hr (anz hk1 (anz hk2 hlow))));clear hs hm h0 h1 h2 h3 hl hr ht hk1 hk2 hlow;go_enter Tryz.func335,Tryz.ntmps335
 go_wp2_with fail
 generalize (w.alloc (.cells #[.pointer p.q,.int .i64 p.n] 257)).alloc (.cells #[.pointer none,.int .i64 0] 257) = w1 at *;obtain ⟨a,ha⟩:=exq (w.heap.size);rw [← ha] at HF ⊢;have HA:=hdz ha;clear ha;((with_reducible refine (first_0 HL.out.1).mono ?_);rintro e w2 ⟨rfl,hb2⟩);have F2:=hdz (HF.out.stay hb2);have K2:=hdz (KK.out.stay hb2);have L2:=hdz (anz (HL.out.1.stay hb2) (HL.out.2.stay hb2));have c0:=F2.out.h.c0;have c1:=F2.out.h.c1;clear hb2 HF KK HL;go_wp2_with fail
 clear c0 c1;((with_reducible refine (push_h L2.out.1 L2.out.2 (by have:=HN.out;(try simp only [bSize] at *);omega) (push_ok HO.out.2.2.1 HO.out.2.2.2.1 HO.out.1 HO.out.2.2.2.2 HO.out.2.1)).mono ?_);rintro e w6 ⟨p6,rfl,ht6,hb6⟩);have F6:=hdz (F2.out.stay hb6);have K6:=hdz (K2.out.stay hb6);have L6:=hdz ht6;have z0:=F6.out.r.z0;have z1:=F6.out.r.z1;have r0:=F6.out.r.c0;have r1:=F6.out.r.c1;have s0:=(F6.out.r.set (.pointer p6.q) (.int .i64 p6.n)).c0;have s1:=(F6.out.r.set (.pointer p6.q) (.int .i64 p6.n)).c1;clear ht6 hb6;go_wp2_with fail
 have k:=K6.out.put2 F6.out.r heapT_ne (by decide) (by have:=HA.out;omega) (.pointer p6.q) (.int .i64 p6.n);exact bodyPost_ret (v:=hp p6) (by simp [results,Tryz.results335,go_sem,s0,s1]) rfl ⟨p6,rfl,L6.out.set2 F6.out.r heapT_ne _ _,by simpa [putTN] using k.mt,k.bt⟩
theorem ahead_cons (mo:Option Nat) (x:Tre) (us:List Tre) (IH:AheadTo mo us):AheadTo mo (x :: us):=by
 intro c m t pa p w hs hm h0 h1 h2 h3 hl hr ht hk1 hk2 hlow;have HF:=hdz (F2.new w p);have KK:=hdz ((Trk.refl (N:=NodeT) hm).stay (new2_below w (.cells #[.pointer p.q,.int .i64 p.n] 257) (.cells #[.pointer none,.int .i64 0] 257)));have HL:=hdz (anz (hl.stay (new2_below w (.cells #[.pointer p.q,.int .i64 p.n] 257) (.cells #[.pointer none,.int .i64 0] 257))) (ht.stay (new2_below w (.cells #[.pointer p.q,.int .i64 p.n] 257) (.cells #[.pointer none,.int .i64 0] 257))));unfold AheadTo at IH;have HI:=hdz IH;clear IH;have HN:=hdz (anz hs (anz h0 (anz h1 (anz h2 h3))));have HO:=hdz (anz (show sOk (x :: us) from hl.right) (anz hr (anz hk1 (anz hk2 hlow))));clear hs hm h0 h1 h2 h3 hl hr ht hk1 hk2 hlow;go_enter Tryz.func335,Tryz.ntmps335
 go_wp2_with fail
 generalize (w.alloc (.cells #[.pointer p.q,.int .i64 p.n] 257)).alloc (.cells #[.pointer none,.int .i64 0] 257) = w1 at *;obtain ⟨a,ha⟩:=exq (w.heap.size);rw [← ha] at HF ⊢;have HA:=hdz ha;clear ha;obtain ⟨xa,hxa,hc⟩:=first_h HL.out.1;have HC:=hdz hc;have TX:=hdz hxa;clear hc hxa;((with_reducible refine HC.out.mono ?_);rintro e w2 ⟨rfl,hb2⟩);have F2:=hdz (HF.out.stay hb2);have K2:=hdz (KK.out.stay hb2);have L2:=hdz (anz (show LAt w2 ⟨x :: us⟩ p from HL.out.1.stay hb2) (anz (HL.out.2.stay hb2) (TX.out.stay hb2)));have c0:=F2.out.h.c0;have c1:=F2.out.h.c1;obtain ⟨rx,hrx⟩:=exq (x.rank);obtain ⟨rt,hrt⟩:=exq (t.rank);have HR:=hdz (anz hrx hrt);clear hb2 HF KK HL HC TX hrx hrt;go_wp2_with fail
 ((with_reducible refine (rank_at L2.out.2.2 rx HR.out.1).mono ?_);rintro e w3 ⟨rfl,hw3⟩);subst hw3;go_wp2_with fail
 ((with_reducible refine (rank_at L2.out.2.1 rt HR.out.2).mono ?_);rintro e w3 ⟨rfl,hw3⟩);subst hw3;by_cases heq:rx = rt
 ·have g1:((rx:Int) == (rt:Int)) = true:=by simp;omega
  have g2:(rx:Int) = (rt:Int):=by omega
  have HQ:=hdz (show t.rank = x.rank by have:=HR.out;omega);clear heq;go_wp2_with fail
  ((with_reducible refine (rest_any x us p _ L2.out.1).mono ?_);rintro e w4 ⟨p4,rfl,ht4,hb4⟩);have F4:=hdz (F2.out.stay hb4);have K4:=hdz (K2.out.stay hb4);have L4:=hdz (anz ht4 (anz (L2.out.2.1.stay hb4) (L2.out.2.2.stay hb4)));clear ht4 hb4 c0 c1 F2 K2 L2;go_wp2_with fail
  ((with_reducible refine (link_any mo c m pa xa (some t) (some x) _ K4.out.mt HN.out.2.1 (by have:=HN.out;omega) HN.out.2.2.2.1 (by have:=HN.out;omega) L4.out.2.1 L4.out.2.2 (by have:=HN.out;simp only [osize,bSize] at *;omega) (by have:=HN.out;simp only [osize,bSize] at *;omega)).mono ?_);rintro e w5 ⟨p5,rfl,ht5,hm5,hb5⟩);have F5:=hdz (F4.out.bt hb5 K4.out.mt);have K5:=hdz (K4.out.turn hm5 hb5 node_ne);have L5:=hdz (anz (L4.out.1.bt hb5 K4.out.mt) (show TAt w5 p5 (some (lnk t x)) from ht5));clear ht5 hm5 hb5 F4 K4 L4;go_wp2_with fail
  have hp:=List.pairwise_cons.1 HO.out.2.1;have hlr:=lnk_rank HQ.out;have HI2:=hdz (HI.out (c + (lnkN (some t) (some x):Nat)) (m + (lnkN (some t) (some x):Nat)) (lnk t x) p5 p4 _ (by rw [lnk_size];have:=HN.out;simp only [bSize] at *;omega) K5.out.mt (by have:=HN.out;omega) (by have:=HN.out;simp only [List.length_cons,lnkN] at *;omega) (by have:=HN.out;omega) (by have:=HN.out;simp only [List.length_cons,lnkN] at *;omega) L5.out.1 hp.2 L5.out.2 (lnk_hok HO.out.2.2.1 (HO.out.1.hok x (List.mem_cons_self ..))) (lnk_sk HQ.out HO.out.2.2.2.1 (HO.out.1.sk x (List.mem_cons_self ..))) (fun y hy => by rw [hlr,HQ.out];exact hp.1 y hy));clear hp hlr;((with_reducible refine HI2.out.mono ?_);rintro e w6 ⟨p6,rfl,ht6,hm6,hb6⟩);have F6:=hdz (F5.out.bt hb6 K5.out.mt);have K6:=hdz (K5.out.turn hm6 hb6 node_ne);have L6:=hdz ht6;have z0:=F6.out.r.z0;have z1:=F6.out.r.z1;have r0:=F6.out.r.c0;have r1:=F6.out.r.c1;have s0:=(F6.out.r.set (.pointer p6.q) (.int .i64 p6.n)).c0;have s1:=(F6.out.r.set (.pointer p6.q) (.int .i64 p6.n)).c1;clear ht6 hm6 hb6 HI2;go_wp2_with fail
  have k:=K6.out.put2 F6.out.r heapT_ne (by decide) (by have:=HA.out;omega) (.pointer p6.q) (.int .i64 p6.n);have hlt:¬ t.rank < x.rank:=by have:=HQ.out;omega
  have e0:putT (x :: us) t = putT us (lnk t x):=by rw [putT,if_neg hlt]
  have e3:putTN (x :: us) t = 1 + putTN us (lnk t x):=by rw [putTN,if_neg hlt];try omega
  have e1:c + ((putTN (x :: us) t:Nat):Int) = c + (lnkN (some t) (some x):Nat) + (putTN us (lnk t x):Nat):=by rw [e3];simp only [lnkN];omega
  have e2:m + ((putTN (x :: us) t:Nat):Int) = m + (lnkN (some t) (some x):Nat) + (putTN us (lnk t x):Nat):=by rw [e3];simp only [lnkN];omega
  exact bodyPost_ret (v:=hp p6) (by simp [results,Tryz.results335,go_sem,s0,s1]) rfl ⟨p6,rfl,by rw [e0];exact L6.out.set2 F6.out.r heapT_ne _ _,by rw [e1,e2];exact k.mt,k.bt⟩
 ·have g1:((rx:Int) == (rt:Int)) = false:=by simp;omega
  have g2:¬ (rx:Int) = (rt:Int):=by omega
  have HQ:=hdz (show t.rank < x.rank by have h1:=HO.out.2.2.2.2 x (List.mem_cons_self ..);have:=HR.out;omega);clear heq;go_wp2_with fail
  clear c0 c1;((with_reducible refine (push_h L2.out.1 L2.out.2.1 (by have:=HN.out;(try simp only [bSize] at *);omega) (push_ok HO.out.2.2.1 HO.out.2.2.2.1 HO.out.1 HO.out.2.2.2.2 HO.out.2.1)).mono ?_);rintro e w6 ⟨p6,rfl,ht6,hb6⟩);have F6:=hdz (F2.out.stay hb6);have K6:=hdz (K2.out.stay hb6);have L6:=hdz ht6;have z0:=F6.out.r.z0;have z1:=F6.out.r.z1;have r0:=F6.out.r.c0;have r1:=F6.out.r.c1;have s0:=(F6.out.r.set (.pointer p6.q) (.int .i64 p6.n)).c0;have s1:=(F6.out.r.set (.pointer p6.q) (.int .i64 p6.n)).c1;clear ht6 hb6;go_wp2_with fail
  have k:=K6.out.put2 F6.out.r heapT_ne (by decide) (by have:=HA.out;omega) (.pointer p6.q) (.int .i64 p6.n);have e0:putT (x :: us) t = t :: x :: us:=by rw [putT,if_pos HQ.out]
  have e3:putTN (x :: us) t = 0:=by rw [putTN,if_pos HQ.out]
  exact bodyPost_ret (v:=hp p6) (by simp [results,Tryz.results335,go_sem,s0,s1]) rfl ⟨p6,rfl,by rw [e0];exact L6.out.set2 F6.out.r heapT_ne _ _,by rw [e3];simpa using k.mt,k.bt⟩
theorem ahead_all (mo:Option Nat):∀ ts:List Tre,AheadTo mo ts
 | [] => ahead_nil mo
 | x :: us => ahead_cons mo x us (ahead_all mo us)
theorem ahead_any (mo:Option Nat) (c m:Int) (t:Tre) (ts:List Tre) (pa:Option Addr) (p:HP) (w:World) (hs:t.size + bSize ts < 268435456) (hm:MAt w mo c m) (h0:0 ≤ c) (h1:c < 1152921504338411520) (h2:0 ≤ m) (h3:m < 1152921504338411520)
  (hh:LAt w ⟨ts⟩ p) (hr:rises ts) (hta:TAt w pa (some t)) (hk1:t.hok) (hk2:t.sk) (hlow:∀ x ∈ ts,t.rank ≤ x.rank) :
  Calls Tryz.prog 335 #[hp p,mAddr mo,.pointer pa] w (Gave mo (c + putTN ts t) (m + putTN ts t) ⟨putT ts t⟩ w) :=
 ahead_all mo ts c m t pa p w hs hm h0 (by have:=len_bSize ts;omega) h2 (by have:=len_bSize ts;omega) hh hr hta hk1 hk2 hlow
theorem lev_nil (mo:Option Nat) (c m:Int) (p:HP) (w:World) (hm:MAt w mo c m) (h:LAt w .nil p):Calls Tryz.prog 337 #[hp p,mAddr mo] w (Gave mo c m .nil w):=by
 have HF:=hdz (F2.new w p);have KK:=hdz ((Trk.refl (N:=NodeT) hm).stay (new2_below w (.cells #[.pointer p.q,.int .i64 p.n] 257) (.cells #[.pointer none,.int .i64 0] 257)));have HL:=hdz (h.stay (new2_below w (.cells #[.pointer p.q,.int .i64 p.n] 257) (.cells #[.pointer none,.int .i64 0] 257)));clear hm h;go_enter Tryz.func337,Tryz.ntmps337
 go_wp2_with fail
 generalize (w.alloc (.cells #[.pointer p.q,.int .i64 p.n] 257)).alloc (.cells #[.pointer none,.int .i64 0] 257) = w1 at *;obtain ⟨a,ha⟩:=exq (w.heap.size);rw [← ha] at HF ⊢;have HA:=hdz ha;clear ha;((with_reducible refine (first_0 HL.out).mono ?_);rintro e w2 ⟨rfl,hb2⟩);have F2:=hdz (HF.out.stay hb2);have K2:=hdz (KK.out.stay hb2);have L2:=hdz (HL.out.stay hb2);have c0:=F2.out.h.c0;have c1:=F2.out.h.c1;have z0:=F2.out.r.z0;have z1:=F2.out.r.z1;have r0:=F2.out.r.c0;have r1:=F2.out.r.c1;have s0:=(F2.out.r.set (.pointer p.q) (.int .i64 p.n)).c0;have s1:=(F2.out.r.set (.pointer p.q) (.int .i64 p.n)).c1;clear hb2 HF KK HL;go_wp2_with fail
 have k:=K2.out.put2 F2.out.r heapT_ne (by decide) (by have:=HA.out;omega) (.pointer p.q) (.int .i64 p.n);exact bodyPost_ret (v:=hp p) (by simp [results,Tryz.results337,go_sem,s0,s1]) rfl ⟨p,rfl,L2.out.set2 F2.out.r heapT_ne _ _,k.mt,k.bt⟩
theorem lev_cons (mo:Option Nat) (c m:Int) (x:Tre) (us:List Tre) (p:HP) (w:World) (hs:bSize (x :: us) < 268435456) (hm:MAt w mo c m) (h0:0 ≤ c) (h1:c < 1152921504338411520) (h2:0 ≤ m) (h3:m < 1152921504338411520) (h:LAt w ⟨x :: us⟩ p) :
  Calls Tryz.prog 337 #[hp p,mAddr mo] w (Gave mo (c + putTN us x) (m + putTN us x) ⟨putT us x⟩ w):=by
 have HF:=hdz (F2.new w p);have KK:=hdz ((Trk.refl (N:=NodeT) hm).stay (new2_below w (.cells #[.pointer p.q,.int .i64 p.n] 257) (.cells #[.pointer none,.int .i64 0] 257)));have HL:=hdz (h.stay (new2_below w (.cells #[.pointer p.q,.int .i64 p.n] 257) (.cells #[.pointer none,.int .i64 0] 257)));have HO:=hdz (show sOk (x :: us) from h.right);have HU:=hdz (show (∀ u ∈ us,x.rank ≤ u.rank) ∧ rises us from h.right.up);have HN:=hdz (anz hs (anz h0 (anz h1 (anz h2 h3))));clear hm h hs h0 h1 h2 h3;go_enter Tryz.func337,Tryz.ntmps337
 go_wp2_with fail
 generalize (w.alloc (.cells #[.pointer p.q,.int .i64 p.n] 257)).alloc (.cells #[.pointer none,.int .i64 0] 257) = w1 at *;obtain ⟨a,ha⟩:=exq (w.heap.size);rw [← ha] at HF ⊢;have HA:=hdz ha;clear ha;obtain ⟨xa,hxa,hc⟩:=first_h HL.out;have HC:=hdz hc;have TX:=hdz hxa;clear hc hxa;((with_reducible refine HC.out.mono ?_);rintro e w2 ⟨rfl,hb2⟩);have F2:=hdz (HF.out.stay hb2);have K2:=hdz (KK.out.stay hb2);have L2:=hdz (anz (show LAt w2 ⟨x :: us⟩ p from HL.out.stay hb2) (TX.out.stay hb2));have c0:=F2.out.h.c0;have c1:=F2.out.h.c1;clear hb2 HF KK HL HC TX;go_wp2_with fail
 ((with_reducible refine (rest_any x us p _ L2.out.1).mono ?_);rintro e w4 ⟨p4,rfl,ht4,hb4⟩);have F4:=hdz (F2.out.stay hb4);have K4:=hdz (K2.out.stay hb4);have L4:=hdz (anz ht4 (L2.out.2.stay hb4));clear ht4 hb4 c0 c1 F2 K2 L2;go_wp2_with fail
 ((with_reducible refine (ahead_any mo c m x us xa p4 _ (by have:=HN.out.1;simp only [bSize] at this;omega) K4.out.mt HN.out.2.1 HN.out.2.2.1 HN.out.2.2.2.1 HN.out.2.2.2.2 L4.out.1 HU.out.2 L4.out.2 (HO.out.hok x (List.mem_cons_self ..)) (HO.out.sk x (List.mem_cons_self ..)) HU.out.1).mono ?_);rintro e w6 ⟨p6,rfl,ht6,hm6,hb6⟩);have F6:=hdz (F4.out.bt hb6 K4.out.mt);have K6:=hdz (K4.out.turn hm6 hb6 node_ne);have L6:=hdz ht6;have z0:=F6.out.r.z0;have z1:=F6.out.r.z1;have r0:=F6.out.r.c0;have r1:=F6.out.r.c1;have s0:=(F6.out.r.set (.pointer p6.q) (.int .i64 p6.n)).c0;have s1:=(F6.out.r.set (.pointer p6.q) (.int .i64 p6.n)).c1;clear ht6 hm6 hb6;go_wp2_with fail
 have k:=K6.out.put2 F6.out.r heapT_ne (by decide) (by have:=HA.out;omega) (.pointer p6.q) (.int .i64 p6.n);exact bodyPost_ret (v:=hp p6) (by simp [results,Tryz.results337,go_sem,s0,s1]) rfl ⟨p6,rfl,L6.out.set2 F6.out.r heapT_ne _ _,k.mt,k.bt⟩
theorem lev_any (mo:Option Nat) (c m:Int) (l:List Tre) (p:HP) (w:World) (hs:bSize l < 268435456) (hm:MAt w mo c m) (h0:0 ≤ c) (h1:c < 1152921504338411520) (h2:0 ≤ m) (h3:m < 1152921504338411520) (h:LAt w ⟨l⟩ p) :
  Calls Tryz.prog 337 #[hp p,mAddr mo] w (Gave mo (c + levN l) (m + levN l) ⟨levT l⟩ w):=by
 cases l with
 | nil => exact (lev_nil mo c m p w hm h).mono fun e w' hh => by simpa [levN,levT,Lh.nil] using hh
 | cons x us => exact lev_cons mo c m x us p w hs hm h0 h1 h2 h3 h
end Go.Proofs.YtmeodbjlmjpnbaaGreat.U.Hp
namespace Go.Proofs.YtmeodbjlmjpnbaaGreat.U.Hp
open Go.Sort Go.RowKit Go.Proofs.YtmeodbjlmjpnbaaGreat.U.Gn
theorem wp_after {P:Program} {c:Code} {a:Act} {w:World} {Q:Exit → Act → World → Prop} (R:Act → Act → World → Prop) (h1:c.wp P (fun e a' w' => e = .normal ∧ R a a' w') a w) (h2:∀ a' w',R a a' w' → Q .normal a' w'):c.wp P Q a w :=
 Code.wp_mono (fun e a' w' h => by obtain ⟨rfl,hr⟩:=h;exact h2 a' w' hr) h1
structure Fm (W:World) (a:Nat) (p q:HP):Prop where
 h:Box2 W a 257 (.pointer p.q) (.int .i64 p.n)
 o:Box2 W (a + 1) 257 (.pointer q.q) (.int .i64 q.n)
 r:Box2 W (a + 2) 257 (.pointer none) (.int .i64 0)
section
variable {W W':World} {a:Nat} {p q:HP} {mo:Option Nat} {c m:Int}
theorem Fm.new (w:World) (p q:HP):Fm (((w.alloc (.cells #[.pointer p.q,.int .i64 p.n] 257)).alloc (.cells #[.pointer q.q,.int .i64 q.n] 257)).alloc (.cells #[.pointer none,.int .i64 0] 257)) w.heap.size p q:=by
 refine ⟨((Box2.new w 257 _ _).alloc _).alloc _,?_,?_⟩
 ·have:=(Box2.new (w.alloc (.cells #[.pointer p.q,.int .i64 p.n] 257)) 257 (.pointer q.q) (.int .i64 q.n)).alloc (.cells #[.pointer none,.int .i64 0] 257);simpa only [World.size_alloc] using this
 ·have:=Box2.new ((w.alloc (.cells #[.pointer p.q,.int .i64 p.n] 257)).alloc (.cells #[.pointer q.q,.int .i64 q.n] 257)) 257 (.pointer none) (.int .i64 0);simpa only [World.size_alloc] using this
theorem Fm.stay (h:Fm W a p q) (hb:Below W.heap.size W W'):Fm W' a p q:=⟨h.h.stay hb,h.o.stay hb,h.r.stay hb⟩
theorem Fm.bt (h:Fm W a p q) (hb:Bt mo W W') (hm:MAt W mo c m):Fm W' a p q:=⟨h.h.bt hb hm (by decide),h.o.bt hb hm (by decide),h.r.bt hb hm (by decide)⟩
end
theorem new3_below (w:World) (x y z:Obj):Below w.heap.size w (((w.alloc x).alloc y).alloc z):=(((Below.refl _ w).alloc (Nat.le_refl _) _).alloc (by simp) _).alloc (by simp;omega) _
def MeldsTo (mo:Option Nat) (la bs:List Tre):Prop:=∀ (c m:Int) (p q:HP) (w:World),bSize la + bSize bs < 268435456 → MAt w mo c m → 0 ≤ c → c < 576460752303423488 → 0 ≤ m → m < 576460752303423488 → LAt w ⟨la⟩ p → LAt w ⟨bs⟩ q → rises la → rises bs →
 Calls Tryz.prog 338 #[hp p,mAddr mo,hp q] w (Gave mo (c + bmeldN la bs) (m + bmeldN la bs) ⟨bmeld la bs⟩ w)
theorem meld_first (mo:Option Nat) (bs:List Tre):MeldsTo mo ([]) (bs):=by
 intro c m p q w hs hm h0 h1 h2 h3 ha hb ra rb;have HL:=hdz (anz ha hb);have HRS:=hdz (anz ra rb);have HF:=hdz (Fm.new w p q);have KK:=hdz ((Trk.refl (N:=NodeT) hm).stay (new3_below w (.cells #[.pointer p.q,.int .i64 p.n] 257) (.cells #[.pointer q.q,.int .i64 q.n] 257) (.cells #[.pointer none,.int .i64 0] 257)));have HN:=hdz (anz hs (anz h0 (anz h1 (anz h2 h3))));clear hs h0 h1 h2 h3 hm ha hb ra rb;go_enter Tryz.func338,Tryz.ntmps338
 go_wp2_with fail
 generalize ((w.alloc (.cells #[.pointer p.q,.int .i64 p.n] 257)).alloc (.cells #[.pointer q.q,.int .i64 q.n] 257)).alloc (.cells #[.pointer none,.int .i64 0] 257) = w1 at *;obtain ⟨a,ha⟩:=exq (w.heap.size);rw [← ha] at HF ⊢;have HA:=hdz ha;clear ha;((with_reducible refine (first_0 (HL.out.1.kps KK.out.kp KK.out.bt.size)).mono ?_);rintro e w2 ⟨rfl,hb2⟩);have F2:=hdz (HF.out.stay hb2);have K2:=hdz (KK.out.stay hb2);have c0:=F2.out.o.c0;have c1:=F2.out.o.c1;have z0:=F2.out.r.z0;have z1:=F2.out.r.z1;have r0:=F2.out.r.c0;have r1:=F2.out.r.c1;have s0:=(F2.out.r.set (.pointer q.q) (.int .i64 q.n)).c0;have s1:=(F2.out.r.set (.pointer q.q) (.int .i64 q.n)).c1;clear hb2 HF KK;go_wp2_with fail
 have k:=K2.out.put2 F2.out.r heapT_ne (by decide) (by have:=HA.out;omega) (.pointer q.q) (.int .i64 q.n);exact bodyPost_ret (v:=hp q) (by simp [results,Tryz.results338,go_sem,s0,s1]) rfl ⟨q,rfl,by rw [bmeld_nil];exact HL.out.2.kps k.kp k.bt.size,by rw [bmeldN_nil];simpa using k.mt,k.bt⟩
theorem meld_second (mo:Option Nat) (f:Tre) (la:List Tre):MeldsTo mo (f :: la) ([]):=by
 intro c m p q w hs hm h0 h1 h2 h3 ha hb ra rb;have HL:=hdz (anz ha hb);have HRS:=hdz (anz ra rb);have HF:=hdz (Fm.new w p q);have KK:=hdz ((Trk.refl (N:=NodeT) hm).stay (new3_below w (.cells #[.pointer p.q,.int .i64 p.n] 257) (.cells #[.pointer q.q,.int .i64 q.n] 257) (.cells #[.pointer none,.int .i64 0] 257)));have HN:=hdz (anz hs (anz h0 (anz h1 (anz h2 h3))));clear hs h0 h1 h2 h3 hm ha hb ra rb;go_enter Tryz.func338,Tryz.ntmps338
 go_wp2_with fail
 generalize ((w.alloc (.cells #[.pointer p.q,.int .i64 p.n] 257)).alloc (.cells #[.pointer q.q,.int .i64 q.n] 257)).alloc (.cells #[.pointer none,.int .i64 0] 257) = w1 at *;obtain ⟨a,ha⟩:=exq (w.heap.size);rw [← ha] at HF ⊢;have HA:=hdz ha;clear ha;obtain ⟨fa,hfa,hc⟩:=first_h (HL.out.1.kps KK.out.kp KK.out.bt.size);have HC:=hdz hc;have TF:=hdz hfa;clear hc hfa;((with_reducible refine HC.out.mono ?_);rintro e w2 ⟨rfl,hb2⟩);have F2:=hdz (HF.out.stay hb2);have K2:=hdz (KK.out.stay hb2);have T2:=hdz (TF.out.stay hb2);have c0:=F2.out.o.c0;have c1:=F2.out.o.c1;clear hb2 HF KK HC TF;go_wp2_with fail
 clear c0 c1;((with_reducible refine (first_0 (HL.out.2.kps K2.out.kp K2.out.bt.size)).mono ?_);rintro e w3 ⟨rfl,hb3⟩);have F3:=hdz (F2.out.stay hb3);have K3:=hdz (K2.out.stay hb3);have c0:=F3.out.h.c0;have c1:=F3.out.h.c1;have z0:=F3.out.r.z0;have z1:=F3.out.r.z1;have r0:=F3.out.r.c0;have r1:=F3.out.r.c1;have s0:=(F3.out.r.set (.pointer p.q) (.int .i64 p.n)).c0;have s1:=(F3.out.r.set (.pointer p.q) (.int .i64 p.n)).c1;clear hb3 F2 K2 T2;go_wp2_with fail
 have k:=K3.out.put2 F3.out.r heapT_ne (by decide) (by have:=HA.out;omega) (.pointer p.q) (.int .i64 p.n);exact bodyPost_ret (v:=hp p) (by simp [results,Tryz.results338,go_sem,s0,s1]) rfl ⟨p,rfl,by rw [bmeld_right];exact HL.out.1.kps k.kp k.bt.size,by rw [bmeldN_right];simpa using k.mt,k.bt⟩
theorem meld_lt (mo:Option Nat) (f g:Tre) (la bs:List Tre) (hlt:f.rank < g.rank) (IH:MeldsTo mo la (g :: bs)):MeldsTo mo (f :: la) (g :: bs):=by
 intro c m p q w hs hm h0 h1 h2 h3 ha hb ra rb;have HL:=hdz (anz ha hb);have HRS:=hdz (anz ra rb);have HF:=hdz (Fm.new w p q);have KK:=hdz ((Trk.refl (N:=NodeT) hm).stay (new3_below w (.cells #[.pointer p.q,.int .i64 p.n] 257) (.cells #[.pointer q.q,.int .i64 q.n] 257) (.cells #[.pointer none,.int .i64 0] 257)));unfold MeldsTo at IH;have HI:=hdz IH;have HB1:=hdz (bmeld_sgood (f :: la) (g :: bs) ha.right.hok hb.right.hok ha.right.sk hb.right.sk ra rb);have HE:=hdz (anz (bmeld_lt hlt:bmeld (f :: la) (g :: bs) = _) (bmeldN_lt hlt:bmeldN (f :: la) (g :: bs) = _));have hsz:=bmeld_size (f :: la) (g :: bs);rw [HE.out.1] at hsz;simp only [bSize] at hs hsz;have HZ:=hdz hsz;clear hsz IH;have HN:=hdz (anz hs (anz h0 (anz h1 (anz h2 h3))));clear hs h0 h1 h2 h3 hm ha hb ra rb;go_enter Tryz.func338,Tryz.ntmps338
 go_wp2_with fail
 generalize ((w.alloc (.cells #[.pointer p.q,.int .i64 p.n] 257)).alloc (.cells #[.pointer q.q,.int .i64 q.n] 257)).alloc (.cells #[.pointer none,.int .i64 0] 257) = w1 at *;obtain ⟨a,ha⟩:=exq (w.heap.size);rw [← ha] at HF ⊢;have HA:=hdz ha;clear ha;obtain ⟨fa,hfa,hc⟩:=first_h (HL.out.1.kps KK.out.kp KK.out.bt.size);have HC:=hdz hc;have TF:=hdz hfa;clear hc hfa;((with_reducible refine HC.out.mono ?_);rintro e w2 ⟨rfl,hb2⟩);have F2:=hdz (HF.out.stay hb2);have K2:=hdz (KK.out.stay hb2);have T2:=hdz (TF.out.stay hb2);have c0:=F2.out.o.c0;have c1:=F2.out.o.c1;clear hb2 HF KK HC TF;go_wp2_with fail
 clear c0 c1;obtain ⟨ga,hga,hc⟩:=first_h (HL.out.2.kps K2.out.kp K2.out.bt.size);have HC:=hdz hc;have TG:=hdz hga;clear hc hga;((with_reducible refine HC.out.mono ?_);rintro e w3 ⟨rfl,hb3⟩);have F3:=hdz (F2.out.stay hb3);have K3:=hdz (K2.out.stay hb3);have T3:=hdz (anz (T2.out.stay hb3) (TG.out.stay hb3));clear hb3 F2 K2 T2 HC TG;obtain ⟨rf,hrf⟩:=exq (f.rank);obtain ⟨rg,hrg⟩:=exq (g.rank);have HRK:=hdz (anz hrf hrg);rw [← hrf,← hrg] at hlt;clear hrf hrg;go_wp2_with fail
 ((with_reducible refine (rank_at T3.out.1 rf HRK.out.1).mono ?_);rintro e w4 ⟨rfl,hw4⟩);subst hw4;go_wp2_with fail
 have d0:decide ((rf:Int) < (rg:Int)) = true:=by first | omega | (simp;omega) | rfl
 have d1:decide (rf < rg) = true:=by first | omega | (simp;omega) | rfl
 have d2:(rf:Int) < (rg:Int):=by first | omega | (simp;omega) | rfl
 have d3:rf < rg:=by first | omega | (simp;omega) | rfl
 ((with_reducible refine (rank_at T3.out.2 rg HRK.out.2).mono ?_);rintro e w4 ⟨rfl,hw4⟩);subst hw4;go_wp2_with fail
 have s3_0:=F3.out.h.c0;have s3_1:=F3.out.h.c1;have s3_2:=F3.out.o.c0;have s3_3:=F3.out.o.c1;have TT:=hdz (T3.out.1);have hfd:=field_h;have n5:¬ a = a + 1 + 1:=by omega
 have n6:¬ a + 1 + 1 = a:=by omega
 go_region_held3 (fun w' => w'.cell? ⟨a,0,none⟩ = some (.pointer p.q) ∧ w'.cell? ⟨a,1,none⟩ = some (.int .i64 p.n) ∧ w'.cell? ⟨a + 1,0,none⟩ = some (.pointer q.q) ∧ w'.cell? ⟨a + 1,1,none⟩ = some (.int .i64 q.n)) (go_keep)
  (first | (go_at_call 163;((with_reducible refine (push_h L5.out (TK.out) (by have:=HN.out;have:=HZ.out;omega) (HE.out.1 ▸ ⟨HB1.out.1,HB1.out.2.1,upto_of HB1.out.2.2.1⟩)).mono ?_);rintro e w6 ⟨p6,rfl,ht6,hb6⟩;have F6:=hdz (F5.out.stay hb6);have K6:=hdz (K5.out.stay hb6);have L6:=hdz ht6;have s6_0:=F6.out.h.c0;have s6_1:=F6.out.h.c1;have s6_2:=F6.out.o.c0;have s6_3:=F6.out.o.c1;have z0:=F6.out.r.z0;have z1:=F6.out.r.z1;have r0:=F6.out.r.c0;have r1:=F6.out.r.c1;clear ht6 hb6)) | (go_at_call 339;((with_reducible refine (rest_any f la p _ ((HL.out.1.kps K3.out.drew.kp K3.out.drew.bt.size))).mono ?_);rintro e w4 ⟨p4,rfl,ht4,hb4⟩;have F4:=hdz ((F3.out.stay ((Below.refl _ _).drew)).stay hb4);have K4:=hdz (K3.out.drew.stay hb4);have L4:=hdz ht4;have TT4:=hdz ((TT.out.stay ((Below.refl _ _).drew)).stay hb4);have s4_0:=F4.out.h.c0;have s4_1:=F4.out.h.c1;have s4_2:=F4.out.o.c0;have s4_3:=F4.out.o.c1;clear ht4 hb4)) | (go_at_call 338;((with_reducible refine (HI.out c m p4 q _ (by have:=HN.out;(try simp only [bSize]);omega) K4.out.mt HN.out.2.1 HN.out.2.2.1 HN.out.2.2.2.1 HN.out.2.2.2.2 L4.out (HL.out.2.kps K4.out.kp K4.out.bt.size) (List.pairwise_cons.1 HRS.out.1).2 HRS.out.2).mono ?_);rintro e w5 ⟨p5,rfl,ht5,hm5,hb5⟩;have F5:=hdz (F4.out.bt hb5 K4.out.mt);have K5:=hdz (K4.out.turn hm5 hb5 node_ne);have L5:=hdz ht5;have TK:=hdz ((TT4.out).kp (Kp.tree (Kp.bt hb5 K4.out.mt)));have s5_0:=F5.out.h.c0;have s5_1:=F5.out.h.c1;have s5_2:=F5.out.o.c0;have s5_3:=F5.out.o.c1;clear ht5 hm5 hb5)))
 go_wp2_with fail
 have s0:=(F6.out.r.set (.pointer p6.q) (.int .i64 p6.n)).c0;have s1:=(F6.out.r.set (.pointer p6.q) (.int .i64 p6.n)).c1;have k:=K6.out.put2 F6.out.r heapT_ne (by decide) (by have:=HA.out;omega) (.pointer p6.q) (.int .i64 p6.n);exact bodyPost_ret (v:=hp p6) (by simp [results,Tryz.results338,go_sem,s0,s1]) rfl ⟨p6,rfl,by rw [HE.out.1];exact L6.out.set2 F6.out.r heapT_ne _ _,by rw [HE.out.2];exact k.mt,k.bt⟩
theorem meld_gt (mo:Option Nat) (f g:Tre) (la bs:List Tre) (hlt:g.rank < f.rank) (IH:MeldsTo mo (f :: la) bs):MeldsTo mo (f :: la) (g :: bs):=by
 intro c m p q w hs hm h0 h1 h2 h3 ha hb ra rb;have HL:=hdz (anz ha hb);have HRS:=hdz (anz ra rb);have HF:=hdz (Fm.new w p q);have KK:=hdz ((Trk.refl (N:=NodeT) hm).stay (new3_below w (.cells #[.pointer p.q,.int .i64 p.n] 257) (.cells #[.pointer q.q,.int .i64 q.n] 257) (.cells #[.pointer none,.int .i64 0] 257)));unfold MeldsTo at IH;have HI:=hdz IH;have HB1:=hdz (bmeld_sgood (f :: la) (g :: bs) ha.right.hok hb.right.hok ha.right.sk hb.right.sk ra rb);have HE:=hdz (anz (bmeld_gt hlt:bmeld (f :: la) (g :: bs) = _) (bmeldN_gt hlt:bmeldN (f :: la) (g :: bs) = _));have hsz:=bmeld_size (f :: la) (g :: bs);rw [HE.out.1] at hsz;simp only [bSize] at hs hsz;have HZ:=hdz hsz;clear hsz IH;have HN:=hdz (anz hs (anz h0 (anz h1 (anz h2 h3))));clear hs h0 h1 h2 h3 hm ha hb ra rb;go_enter Tryz.func338,Tryz.ntmps338
 go_wp2_with fail
 generalize ((w.alloc (.cells #[.pointer p.q,.int .i64 p.n] 257)).alloc (.cells #[.pointer q.q,.int .i64 q.n] 257)).alloc (.cells #[.pointer none,.int .i64 0] 257) = w1 at *;obtain ⟨a,ha⟩:=exq (w.heap.size);rw [← ha] at HF ⊢;have HA:=hdz ha;clear ha;obtain ⟨fa,hfa,hc⟩:=first_h (HL.out.1.kps KK.out.kp KK.out.bt.size);have HC:=hdz hc;have TF:=hdz hfa;clear hc hfa;((with_reducible refine HC.out.mono ?_);rintro e w2 ⟨rfl,hb2⟩);have F2:=hdz (HF.out.stay hb2);have K2:=hdz (KK.out.stay hb2);have T2:=hdz (TF.out.stay hb2);have c0:=F2.out.o.c0;have c1:=F2.out.o.c1;clear hb2 HF KK HC TF;go_wp2_with fail
 clear c0 c1;obtain ⟨ga,hga,hc⟩:=first_h (HL.out.2.kps K2.out.kp K2.out.bt.size);have HC:=hdz hc;have TG:=hdz hga;clear hc hga;((with_reducible refine HC.out.mono ?_);rintro e w3 ⟨rfl,hb3⟩);have F3:=hdz (F2.out.stay hb3);have K3:=hdz (K2.out.stay hb3);have T3:=hdz (anz (T2.out.stay hb3) (TG.out.stay hb3));clear hb3 F2 K2 T2 HC TG;obtain ⟨rf,hrf⟩:=exq (f.rank);obtain ⟨rg,hrg⟩:=exq (g.rank);have HRK:=hdz (anz hrf hrg);rw [← hrf,← hrg] at hlt;clear hrf hrg;go_wp2_with fail
 ((with_reducible refine (rank_at T3.out.1 rf HRK.out.1).mono ?_);rintro e w4 ⟨rfl,hw4⟩);subst hw4;go_wp2_with fail
 have d0:decide ((rf:Int) < (rg:Int)) = false:=by first | omega | (simp;omega) | rfl
 have d1:decide (rf < rg) = false:=by first | omega | (simp;omega) | rfl
 have d2:¬ (rf:Int) < (rg:Int):=by first | omega | (simp;omega) | rfl
 have d3:¬ rf < rg:=by first | omega | (simp;omega) | rfl
 ((with_reducible refine (rank_at T3.out.2 rg HRK.out.2).mono ?_);rintro e w4 ⟨rfl,hw4⟩);subst hw4;go_wp2_with fail
 clear d0 d1 d2 d3;((with_reducible refine (rank_at T3.out.2 rg HRK.out.2).mono ?_);rintro e w4 ⟨rfl,hw4⟩);subst hw4;go_wp2_with fail
 have d0:decide ((rg:Int) < (rf:Int)) = true:=by first | omega | (simp;omega) | rfl
 have d1:decide (rg < rf) = true:=by first | omega | (simp;omega) | rfl
 have d2:(rg:Int) < (rf:Int):=by first | omega | (simp;omega) | rfl
 have d3:rg < rf:=by first | omega | (simp;omega) | rfl
 ((with_reducible refine (rank_at T3.out.1 rf HRK.out.1).mono ?_);rintro e w4 ⟨rfl,hw4⟩);subst hw4;go_wp2_with fail
 have s3_0:=F3.out.h.c0;have s3_1:=F3.out.h.c1;have s3_2:=F3.out.o.c0;have s3_3:=F3.out.o.c1;have TT:=hdz (T3.out.2);have hfd:=field_h;have n5:¬ a = a + 1 + 1:=by omega
 have n6:¬ a + 1 + 1 = a:=by omega
 go_region_held3 (fun w' => w'.cell? ⟨a,0,none⟩ = some (.pointer p.q) ∧ w'.cell? ⟨a,1,none⟩ = some (.int .i64 p.n) ∧ w'.cell? ⟨a + 1,0,none⟩ = some (.pointer q.q) ∧ w'.cell? ⟨a + 1,1,none⟩ = some (.int .i64 q.n)) (go_keep)
  (first | (go_at_call 163;((with_reducible refine (push_h L5.out (TK.out) (by have:=HN.out;have:=HZ.out;omega) (HE.out.1 ▸ ⟨HB1.out.1,HB1.out.2.1,upto_of HB1.out.2.2.1⟩)).mono ?_);rintro e w6 ⟨p6,rfl,ht6,hb6⟩;have F6:=hdz (F5.out.stay hb6);have K6:=hdz (K5.out.stay hb6);have L6:=hdz ht6;have s6_0:=F6.out.h.c0;have s6_1:=F6.out.h.c1;have s6_2:=F6.out.o.c0;have s6_3:=F6.out.o.c1;have z0:=F6.out.r.z0;have z1:=F6.out.r.z1;have r0:=F6.out.r.c0;have r1:=F6.out.r.c1;clear ht6 hb6)) | (go_at_call 339;((with_reducible refine (rest_any g bs q _ ((HL.out.2.kps K3.out.drew.kp K3.out.drew.bt.size))).mono ?_);rintro e w4 ⟨p4,rfl,ht4,hb4⟩;have F4:=hdz ((F3.out.stay ((Below.refl _ _).drew)).stay hb4);have K4:=hdz (K3.out.drew.stay hb4);have L4:=hdz ht4;have TT4:=hdz ((TT.out.stay ((Below.refl _ _).drew)).stay hb4);have s4_0:=F4.out.h.c0;have s4_1:=F4.out.h.c1;have s4_2:=F4.out.o.c0;have s4_3:=F4.out.o.c1;clear ht4 hb4)) | (go_at_call 338;((with_reducible refine (HI.out c m p p4 _ (by have:=HN.out;(try simp only [bSize]);omega) K4.out.mt HN.out.2.1 HN.out.2.2.1 HN.out.2.2.2.1 HN.out.2.2.2.2 (HL.out.1.kps K4.out.kp K4.out.bt.size) L4.out HRS.out.1 (List.pairwise_cons.1 HRS.out.2).2).mono ?_);rintro e w5 ⟨p5,rfl,ht5,hm5,hb5⟩;have F5:=hdz (F4.out.bt hb5 K4.out.mt);have K5:=hdz (K4.out.turn hm5 hb5 node_ne);have L5:=hdz ht5;have TK:=hdz ((TT4.out).kp (Kp.tree (Kp.bt hb5 K4.out.mt)));have s5_0:=F5.out.h.c0;have s5_1:=F5.out.h.c1;have s5_2:=F5.out.o.c0;have s5_3:=F5.out.o.c1;clear ht5 hm5 hb5)))
 go_wp2_with fail
 have s0:=(F6.out.r.set (.pointer p6.q) (.int .i64 p6.n)).c0;have s1:=(F6.out.r.set (.pointer p6.q) (.int .i64 p6.n)).c1;have k:=K6.out.put2 F6.out.r heapT_ne (by decide) (by have:=HA.out;omega) (.pointer p6.q) (.int .i64 p6.n);exact bodyPost_ret (v:=hp p6) (by simp [results,Tryz.results338,go_sem,s0,s1]) rfl ⟨p6,rfl,by rw [HE.out.1];exact L6.out.set2 F6.out.r heapT_ne _ _,by rw [HE.out.2];exact k.mt,k.bt⟩
theorem meld_eq (mo:Option Nat) (f g:Tre) (la bs:List Tre) (hlt:f.rank = g.rank) (IH:MeldsTo mo la bs):MeldsTo mo (f :: la) (g :: bs):=by
 intro c m p q w hs hm h0 h1 h2 h3 ha hb ra rb;have HL:=hdz (anz ha hb);have HRS:=hdz (anz ra rb);have HF:=hdz (Fm.new w p q);have KK:=hdz ((Trk.refl (N:=NodeT) hm).stay (new3_below w (.cells #[.pointer p.q,.int .i64 p.n] 257) (.cells #[.pointer q.q,.int .i64 q.n] 257) (.cells #[.pointer none,.int .i64 0] 257)));unfold MeldsTo at IH;have HI:=hdz IH;have HEQ:=hdz hlt;have HB1:=hdz (anz (show sOk (f :: la) from ha.right) (show sOk (g :: bs) from hb.right));have HE:=hdz (anz (bmeld_eq hlt:bmeld (f :: la) (g :: bs) = _) (bmeldN_eq hlt:bmeldN (f :: la) (g :: bs) = _));have hsz:=bmeld_size la bs;have hln:=bmeld_len la bs;have hl1:=len_bSize la;have hl2:=len_bSize bs;simp only [bSize] at hs;have HZ:=hdz (show bSize (bmeld la bs) = bSize la + bSize bs ∧ bmeldN la bs < 268435456 from ⟨hsz,by simp only [Gn.Tre.size] at hs;omega⟩);clear hsz IH hln hl1 hl2;have HN:=hdz (anz hs (anz h0 (anz h1 (anz h2 h3))));clear hs h0 h1 h2 h3 hm ha hb ra rb;go_enter Tryz.func338,Tryz.ntmps338
 go_wp2_with fail
 generalize ((w.alloc (.cells #[.pointer p.q,.int .i64 p.n] 257)).alloc (.cells #[.pointer q.q,.int .i64 q.n] 257)).alloc (.cells #[.pointer none,.int .i64 0] 257) = w1 at *;obtain ⟨a,ha⟩:=exq (w.heap.size);rw [← ha] at HF ⊢;have HA:=hdz ha;clear ha;obtain ⟨fa,hfa,hc⟩:=first_h (HL.out.1.kps KK.out.kp KK.out.bt.size);have HC:=hdz hc;have TF:=hdz hfa;clear hc hfa;((with_reducible refine HC.out.mono ?_);rintro e w2 ⟨rfl,hb2⟩);have F2:=hdz (HF.out.stay hb2);have K2:=hdz (KK.out.stay hb2);have T2:=hdz (TF.out.stay hb2);have c0:=F2.out.o.c0;have c1:=F2.out.o.c1;clear hb2 HF KK HC TF;go_wp2_with fail
 clear c0 c1;obtain ⟨ga,hga,hc⟩:=first_h (HL.out.2.kps K2.out.kp K2.out.bt.size);have HC:=hdz hc;have TG:=hdz hga;clear hc hga;((with_reducible refine HC.out.mono ?_);rintro e w3 ⟨rfl,hb3⟩);have F3:=hdz (F2.out.stay hb3);have K3:=hdz (K2.out.stay hb3);have T3:=hdz (anz (T2.out.stay hb3) (TG.out.stay hb3));clear hb3 F2 K2 T2 HC TG;obtain ⟨rf,hrf⟩:=exq (f.rank);obtain ⟨rg,hrg⟩:=exq (g.rank);have HRK:=hdz (anz hrf hrg);rw [← hrf,← hrg] at hlt;clear hrf hrg;go_wp2_with fail
 ((with_reducible refine (rank_at T3.out.1 rf HRK.out.1).mono ?_);rintro e w4 ⟨rfl,hw4⟩);subst hw4;go_wp2_with fail
 have d0:decide ((rf:Int) < (rg:Int)) = false:=by first | omega | (simp;omega) | rfl
 have d1:decide (rf < rg) = false:=by first | omega | (simp;omega) | rfl
 have d2:¬ (rf:Int) < (rg:Int):=by first | omega | (simp;omega) | rfl
 have d3:¬ rf < rg:=by first | omega | (simp;omega) | rfl
 ((with_reducible refine (rank_at T3.out.2 rg HRK.out.2).mono ?_);rintro e w4 ⟨rfl,hw4⟩);subst hw4;go_wp2_with fail
 clear d0 d1 d2 d3;((with_reducible refine (rank_at T3.out.2 rg HRK.out.2).mono ?_);rintro e w4 ⟨rfl,hw4⟩);subst hw4;go_wp2_with fail
 have d0:decide ((rg:Int) < (rf:Int)) = false:=by first | omega | (simp;omega) | rfl
 have d1:decide (rg < rf) = false:=by first | omega | (simp;omega) | rfl
 have d2:¬ (rg:Int) < (rf:Int):=by first | omega | (simp;omega) | rfl
 have d3:¬ rg < rf:=by first | omega | (simp;omega) | rfl
 ((with_reducible refine (rank_at T3.out.1 rf HRK.out.1).mono ?_);rintro e w4 ⟨rfl,hw4⟩);subst hw4;go_wp2_with fail
 clear d0 d1 d2 d3 hlt;refine wp_after (R:=fun x x' w' => ∃ (u59 u60 u61 u62 u63 u64:Value) (v:Nat) (p5:HP),x' = (((((((x.put (some 59) u59).put (some 60) u60).put (some 61) u61).put (some 62) u62).put (some 63) u63).put (some 64) u64).put (some 10) (.pointer (some ⟨v,0,none⟩))) ∧ Bt mo w4 w' ∧ MAt w' mo (c + (bmeldN la bs:Nat)) (m + (bmeldN la bs:Nat)) ∧ w4.heap.size ≤ v ∧ Box2 w' v 257 (.pointer p5.q) (.int .i64 p5.n) ∧ LAt w' ⟨bmeld la bs⟩ p5) ?_ ?_
 ·have HS:=hdz (fun (w':World) (hz:Bt mo w4 w') => (show w'.cell? ⟨a,0,none⟩ = some (.pointer p.q) ∧ w'.cell? ⟨a,1,none⟩ = some (.int .i64 p.n) ∧ w'.cell? ⟨a + 1,0,none⟩ = some (.pointer q.q) ∧ w'.cell? ⟨a + 1,1,none⟩ = some (.int .i64 q.n) from ⟨(F3.out.bt hz K3.out.mt).h.c0,(F3.out.bt hz K3.out.mt).h.c1,(F3.out.bt hz K3.out.mt).o.c0,(F3.out.bt hz K3.out.mt).o.c1⟩));have hB:=(Bt.refl mo w4).drew;have hM:=K3.out.mt.drew;have hLa:=HL.out.1.kps K3.out.drew.kp K3.out.drew.bt.size;have hLb:=HL.out.2.kps K3.out.drew.kp K3.out.drew.bt.size;refine wp_region_noPanic ?_;refine wp_region_held_drew (S:=fun w' => w'.cell? ⟨a,0,none⟩ = some (.pointer p.q) ∧ w'.cell? ⟨a,1,none⟩ = some (.int .i64 p.n) ∧ w'.cell? ⟨a + 1,0,none⟩ = some (.pointer q.q) ∧ w'.cell? ⟨a + 1,1,none⟩ = some (.int .i64 q.n)) (by kernel_rfl) (HS.out _ hB) (fun hH => ?_);generalize w4.drew = wd at *;refine tk 0 hH ?_;try simp only [bkz]
  refine tk 2 hH ?_;try simp only [bkz]
  refine tk 3 hH ?_;try simp only [bkz]
  refine rd2 1 6 (fun K hK => ?_) (fun K hK => ?_)
  ·go_simp;go_at_call 339
   (with_reducible refine (rest_any f la p _ hLa).mono ?_);rintro e w5 ⟨p1,rfl,ht1,hb⟩;replace hLb:=hLb.stay hb;replace hB:=hB.trans (Bt.ofBelow hb);replace hM:=hM.stay hb;clear hb hLa;refine hK.out _ _ ?_ (fun hH2 => ?_)
   ·exact HS.out _ hB
   clear hK K hH;have hH:=hH2;clear hH2;try simp only [bkz]
   refine rd2 4 6 (fun K hK => ?_) (fun K hK => ?_)
   ·go_simp;go_at_call 339
    (with_reducible refine (rest_any g bs q _ hLb).mono ?_);rintro e w6 ⟨p2,rfl,ht2,hb⟩;replace ht1:=ht1.stay hb;replace hB:=hB.trans (Bt.ofBelow hb);replace hM:=hM.stay hb;clear hb hLb;refine hK.out _ _ ?_ (fun hH2 => ?_)
    ·exact HS.out _ hB
    clear hK K hH;have hH:=hH2;clear hH2;try simp only [bkz]
    refine rd2 5 6 (fun K hK => ?_) (fun K hK => ?_)
    focus
     go_simp;go_at_call 338
     (with_reducible refine (HI.out c m p1 p2 _ (by have:=HN.out;omega) hM HN.out.2.1 HN.out.2.2.1 HN.out.2.2.2.1 HN.out.2.2.2.2 ht1 ht2 (List.pairwise_cons.1 HRS.out.1).2 (List.pairwise_cons.1 HRS.out.2).2).mono ?_);rintro e w7 ⟨p5,rfl,ht5,hm5,hb⟩;replace hB:=hB.trans hb;replace hM:=hm5;clear hb hm5 ht1 ht2;refine hK.out _ _ ?_ (fun hH2 => ?_)
     ·exact HS.out _ hB
     clear hK K hH;have hH:=hH2;clear hH2;try simp only [bkz]
     refine rd1 6 (fun K hK => ?_);go_simp;refine hK.out _ _ ?_ (fun hH2 => ?_)
     ·exact HS.out _ (hB.alloc _)
     clear hK K hH;have hH:=hH2;clear hH2;have hv:=Box2.new w7 257 (.pointer none) (.int .i64 0);have hV:w4.heap.size ≤ w7.heap.size:=hB.size;replace ht5:=ht5.stay (bqA (.cells #[.pointer none,.int .i64 0] 257));replace hB:=hB.alloc (.cells #[.pointer none,.int .i64 0] 257);replace hM:=hM.alloc (.cells #[.pointer none,.int .i64 0] 257);obtain ⟨v,hve⟩:=exq (w7.heap.size);rw [← hve] at hv hV ⊢;clear hve;generalize w7.alloc (.cells #[.pointer none,.int .i64 0] 257) = wA at *
    rotate_left
    focus
     go_simp;refine hK.out _ _ ?_ (fun hH2 => ?_)
     ·exact HS.out _ (hB.alloc _)
     clear hK K hH;have hH:=hH2;clear hH2;have hv:=Box2.new w6 257 (.pointer none) (.int .i64 0);have hV:w4.heap.size ≤ w6.heap.size:=hB.size;replace ht1:=ht1.stay (bqA (.cells #[.pointer none,.int .i64 0] 257));replace ht2:=ht2.stay (bqA (.cells #[.pointer none,.int .i64 0] 257));replace hB:=hB.alloc (.cells #[.pointer none,.int .i64 0] 257);replace hM:=hM.alloc (.cells #[.pointer none,.int .i64 0] 257);obtain ⟨v,hve⟩:=exq (w6.heap.size);rw [← hve] at hv hV ⊢;clear hve;generalize w6.alloc (.cells #[.pointer none,.int .i64 0] 257) = wA at *;try simp only [bkz]
     refine rd1 5 (fun K hK => ?_);go_simp;go_at_call 338
     (with_reducible refine (HI.out c m p1 p2 _ (by have:=HN.out;omega) hM HN.out.2.1 HN.out.2.2.1 HN.out.2.2.2.1 HN.out.2.2.2.2 ht1 ht2 (List.pairwise_cons.1 HRS.out.1).2 (List.pairwise_cons.1 HRS.out.2).2).mono ?_);rintro e w7 ⟨p5,rfl,ht5,hm5,hb⟩;replace hv:=hv.bt hb hM (by decide);replace hB:=hB.trans hb;replace hM:=hm5;clear hb hm5 ht1 ht2;refine hK.out _ _ ?_ (fun hH2 => ?_)
     ·exact HS.out _ hB
     clear hK K hH;have hH:=hH2;clear hH2
    rotate_left
    all_goals
     try simp only [bkz]
     have vc0:=hv.c0;have vc1:=hv.c1;have vz0:=hv.z0;have vz1:=hv.z1;refine rd1 7 (fun K hK => ?_);go_simp;refine hK.out _ _ ?_ (fun hH2 => ?_)
     ·exact HS.out _ ((hB.own hV 0 _).own hV 1 _)
     clear hK K hH;have hH:=hH2;clear hH2;have hv2:=hv.set (.pointer p5.q) (.int .i64 p5.n);have ht6:=ht5.set2 hv heapT_ne (.pointer p5.q) (.int .i64 p5.n);have hB2:=(hB.own hV 0 (.pointer p5.q)).own hV 1 (.int .i64 p5.n);have hM2:=(hM.other hv (by decide) 0 (.pointer p5.q)).other (hv.set0 (.pointer p5.q)) (by decide) 1 (.int .i64 p5.n);clear vc0 vc1 vz0 vz1;try simp only [bkz]
     refine dn ?_;clear hH;exact ⟨rfl,_,_,_,_,_,_,v,p5,by (try simp only [bkz]);rfl,hB2,hM2,hV,hv2,ht6⟩
   ·go_simp;refine hK.out _ _ ?_ (fun hH2 => ?_)
    ·exact HS.out _ (hB.alloc _)
    clear hK K hH;have hH:=hH2;clear hH2;have hv:=Box2.new w5 257 (.pointer none) (.int .i64 0);have hV:w4.heap.size ≤ w5.heap.size:=hB.size;replace ht1:=ht1.stay (bqA (.cells #[.pointer none,.int .i64 0] 257));replace hLb:=hLb.stay (bqA (.cells #[.pointer none,.int .i64 0] 257));replace hB:=hB.alloc (.cells #[.pointer none,.int .i64 0] 257);replace hM:=hM.alloc (.cells #[.pointer none,.int .i64 0] 257);obtain ⟨v,hve⟩:=exq (w5.heap.size);rw [← hve] at hv hV ⊢;clear hve;generalize w5.alloc (.cells #[.pointer none,.int .i64 0] 257) = wA at *;try simp only [bkz]
    refine rd1 4 (fun K hK => ?_);go_simp;go_at_call 339
    (with_reducible refine (rest_any g bs q _ hLb).mono ?_);rintro e w6 ⟨p2,rfl,ht2,hb⟩;replace ht1:=ht1.stay hb;replace hB:=hB.trans (Bt.ofBelow hb);replace hM:=hM.stay hb;replace hv:=hv.stay hb;clear hb hLb;refine hK.out _ _ ?_ (fun hH2 => ?_)
    ·exact HS.out _ hB
    clear hK K hH;have hH:=hH2;clear hH2;try simp only [bkz]
    refine rd1 5 (fun K hK => ?_);go_simp;go_at_call 338
    (with_reducible refine (HI.out c m p1 p2 _ (by have:=HN.out;omega) hM HN.out.2.1 HN.out.2.2.1 HN.out.2.2.2.1 HN.out.2.2.2.2 ht1 ht2 (List.pairwise_cons.1 HRS.out.1).2 (List.pairwise_cons.1 HRS.out.2).2).mono ?_);rintro e w7 ⟨p5,rfl,ht5,hm5,hb⟩;replace hv:=hv.bt hb hM (by decide);replace hB:=hB.trans hb;replace hM:=hm5;clear hb hm5 ht1 ht2;refine hK.out _ _ ?_ (fun hH2 => ?_)
    ·exact HS.out _ hB
    clear hK K hH;have hH:=hH2;clear hH2;try simp only [bkz]
    have vc0:=hv.c0;have vc1:=hv.c1;have vz0:=hv.z0;have vz1:=hv.z1;refine rd1 7 (fun K hK => ?_);go_simp;refine hK.out _ _ ?_ (fun hH2 => ?_)
    ·exact HS.out _ ((hB.own hV 0 _).own hV 1 _)
    clear hK K hH;have hH:=hH2;clear hH2;have hv2:=hv.set (.pointer p5.q) (.int .i64 p5.n);have ht6:=ht5.set2 hv heapT_ne (.pointer p5.q) (.int .i64 p5.n);have hB2:=(hB.own hV 0 (.pointer p5.q)).own hV 1 (.int .i64 p5.n);have hM2:=(hM.other hv (by decide) 0 (.pointer p5.q)).other (hv.set0 (.pointer p5.q)) (by decide) 1 (.int .i64 p5.n);clear vc0 vc1 vz0 vz1;try simp only [bkz]
    refine dn ?_;clear hH;exact ⟨rfl,_,_,_,_,_,_,v,p5,by (try simp only [bkz]);rfl,hB2,hM2,hV,hv2,ht6⟩
  ·go_simp;refine hK.out _ _ ?_ (fun hH2 => ?_)
   ·exact HS.out _ (hB.alloc _)
   clear hK K hH;have hH:=hH2;clear hH2;have hv:=Box2.new wd 257 (.pointer none) (.int .i64 0);have hV:w4.heap.size ≤ wd.heap.size:=hB.size;replace hLa:=hLa.stay (bqA (.cells #[.pointer none,.int .i64 0] 257));replace hLb:=hLb.stay (bqA (.cells #[.pointer none,.int .i64 0] 257));replace hB:=hB.alloc (.cells #[.pointer none,.int .i64 0] 257);replace hM:=hM.alloc (.cells #[.pointer none,.int .i64 0] 257);obtain ⟨v,hve⟩:=exq (wd.heap.size);rw [← hve] at hv hV ⊢;clear hve;generalize wd.alloc (.cells #[.pointer none,.int .i64 0] 257) = wA at *;try simp only [bkz]
   refine rd1 1 (fun K hK => ?_);go_simp;go_at_call 339
   (with_reducible refine (rest_any f la p _ hLa).mono ?_);rintro e w5 ⟨p1,rfl,ht1,hb⟩;replace hLb:=hLb.stay hb;replace hB:=hB.trans (Bt.ofBelow hb);replace hM:=hM.stay hb;replace hv:=hv.stay hb;clear hb hLa;refine hK.out _ _ ?_ (fun hH2 => ?_)
   ·exact HS.out _ hB
   clear hK K hH;have hH:=hH2;clear hH2;try simp only [bkz]
   refine rd1 4 (fun K hK => ?_);go_simp;go_at_call 339
   (with_reducible refine (rest_any g bs q _ hLb).mono ?_);rintro e w6 ⟨p2,rfl,ht2,hb⟩;replace ht1:=ht1.stay hb;replace hB:=hB.trans (Bt.ofBelow hb);replace hM:=hM.stay hb;replace hv:=hv.stay hb;clear hb hLb;refine hK.out _ _ ?_ (fun hH2 => ?_)
   ·exact HS.out _ hB
   clear hK K hH;have hH:=hH2;clear hH2;try simp only [bkz]
   refine rd1 5 (fun K hK => ?_);go_simp;go_at_call 338
   (with_reducible refine (HI.out c m p1 p2 _ (by have:=HN.out;omega) hM HN.out.2.1 HN.out.2.2.1 HN.out.2.2.2.1 HN.out.2.2.2.2 ht1 ht2 (List.pairwise_cons.1 HRS.out.1).2 (List.pairwise_cons.1 HRS.out.2).2).mono ?_);rintro e w7 ⟨p5,rfl,ht5,hm5,hb⟩;replace hv:=hv.bt hb hM (by decide);replace hB:=hB.trans hb;replace hM:=hm5;clear hb hm5 ht1 ht2;refine hK.out _ _ ?_ (fun hH2 => ?_)
   ·exact HS.out _ hB
   clear hK K hH;have hH:=hH2;clear hH2;try simp only [bkz]
   have vc0:=hv.c0;have vc1:=hv.c1;have vz0:=hv.z0;have vz1:=hv.z1;refine rd1 7 (fun K hK => ?_);go_simp;refine hK.out _ _ ?_ (fun hH2 => ?_)
   ·exact HS.out _ ((hB.own hV 0 _).own hV 1 _)
   clear hK K hH;have hH:=hH2;clear hH2;have hv2:=hv.set (.pointer p5.q) (.int .i64 p5.n);have ht6:=ht5.set2 hv heapT_ne (.pointer p5.q) (.int .i64 p5.n);have hB2:=(hB.own hV 0 (.pointer p5.q)).own hV 1 (.int .i64 p5.n);have hM2:=(hM.other hv (by decide) 0 (.pointer p5.q)).other (hv.set0 (.pointer p5.q)) (by decide) 1 (.int .i64 p5.n);clear vc0 vc1 vz0 vz1;try simp only [bkz]
   refine dn ?_;clear hH;exact ⟨rfl,_,_,_,_,_,_,v,p5,by (try simp only [bkz]);rfl,hB2,hM2,hV,hv2,ht6⟩
 rintro x' w' ⟨u59,u60,u61,u62,u63,u64,v,p5,rfl,hB,hM,hV,hv,ht⟩;try simp only [bkz]
 have nv1:¬ v = a + 1 + 1:=by have:=F3.out.r.lt;omega
 have nv2:¬ a + 1 + 1 = v:=by have:=F3.out.r.lt;omega
 have F5:=hdz (F3.out.bt hB K3.out.mt);have K5:=hdz (K3.out.turn hM hB node_ne);have T5:=hdz (anz (T3.out.1.kp (Kp.tree (Kp.bt hB K3.out.mt))) (T3.out.2.kp (Kp.tree (Kp.bt hB K3.out.mt))));have V5:=hdz (anz hv (anz ht hV));have v0:=hv.c0;have v1:=hv.c1;clear hB hM hV hv ht F3 K3 T3;go_wp2_with fail
 have HQ:=hdz HEQ.out;have HBR:=hdz (bmeld_sgood la bs (tail_ok HB1.out.1).hok (tail_ok HB1.out.2).hok (tail_ok HB1.out.1).sk (tail_ok HB1.out.2).sk (List.pairwise_cons.1 HRS.out.1).2 (List.pairwise_cons.1 HRS.out.2).2).2.2.1
 have HLOW:=hdz (show ∀ x ∈ bmeld la bs,(lnk f g).rank ≤ x.rank from by
  rw [lnk_rank HQ.out];have h1:=List.pairwise_cons.1 HRS.out.1;have h2:=List.pairwise_cons.1 HRS.out.2;have h3:=(bmeld_sgood la bs (tail_ok HB1.out.1).hok (tail_ok HB1.out.2).hok (tail_ok HB1.out.1).sk (tail_ok HB1.out.2).sk h1.2 h2.2).2.2.2 (f.rank + 1) (fun u hu => h1.1 u hu) (fun u hu => by have:=h2.1 u hu;have:=HQ.out;omega);exact h3)
 go_region_held3 (fun w' => w'.cell? ⟨v,0,none⟩ = some (.pointer p5.q) ∧ w'.cell? ⟨v,1,none⟩ = some (.int .i64 p5.n)) (go_keep)
  (first | (go_at_call 175;((with_reducible refine (link_any mo (c + (bmeldN la bs:Nat)) (m + (bmeldN la bs:Nat)) fa ga (some f) (some g) _ K5.out.drew.mt (by have:=HN.out;omega) (by have:=HN.out;have:=HZ.out;omega) (by have:=HN.out;omega) (by have:=HN.out;have:=HZ.out;omega) (T5.out.1.stay ((Below.refl _ _).drew)) (T5.out.2.stay ((Below.refl _ _).drew)) (by have:=HN.out;simp only [osize];omega) (by have:=HN.out;simp only [osize];omega)).mono ?_);rintro e w6 ⟨p6,rfl,ht6,hm6,hb6⟩;have F6:=hdz ((F5.out.stay ((Below.refl _ _).drew)).bt hb6 K5.out.drew.mt);have K6:=hdz (K5.out.drew.turn hm6 hb6 node_ne);have T6:=hdz (show TAt w6 p6 (some (lnk f g)) from ht6);have V6:=hdz (anz ((V5.out.1.stay ((Below.refl _ _).drew)).bt hb6 K5.out.drew.mt (by decide)) ((V5.out.2.1.stay ((Below.refl _ _).drew)).bt hb6 K5.out.drew.mt));have v60:=V6.out.1.c0;have v61:=V6.out.1.c1;clear ht6 hm6 hb6)) | (go_at_call 335;((with_reducible refine (ahead_any mo (c + (bmeldN la bs:Nat) + (lnkN (some f) (some g):Nat)) (m + (bmeldN la bs:Nat) + (lnkN (some f) (some g):Nat)) (lnk f g) (bmeld la bs) p6 p5 _ (by rw [lnk_size];have:=HN.out;have:=HZ.out;omega) K6.out.mt (by have:=HN.out;omega) (by have:=HN.out;have:=HZ.out;simp only [lnkN];omega) (by have:=HN.out;omega) (by have:=HN.out;have:=HZ.out;simp only [lnkN];omega) V6.out.2 HBR.out T6.out (lnk_hok (HB1.out.1.hok f (List.mem_cons_self ..)) (HB1.out.2.hok g (List.mem_cons_self ..))) (lnk_sk HQ.out (HB1.out.1.sk f (List.mem_cons_self ..)) (HB1.out.2.sk g (List.mem_cons_self ..))) HLOW.out).mono ?_);rintro e w7 ⟨p7,rfl,ht7,hm7,hb7⟩;have F7:=hdz (F6.out.bt hb7 K6.out.mt);have K7:=hdz (K6.out.turn hm7 hb7 node_ne);have L7:=hdz ht7;have V7:=hdz (V6.out.1.bt hb7 K6.out.mt (by decide));have v70:=V7.out.c0;have v71:=V7.out.c1;have z0:=F7.out.r.z0;have z1:=F7.out.r.z1;have r0:=F7.out.r.c0;have r1:=F7.out.r.c1;clear ht7 hm7 hb7)))
 go_wp2_with fail
 have s0:=(F7.out.r.set (.pointer p7.q) (.int .i64 p7.n)).c0;have s1:=(F7.out.r.set (.pointer p7.q) (.int .i64 p7.n)).c1;have k:=K7.out.put2 F7.out.r heapT_ne (by decide) (by have:=HA.out;omega) (.pointer p7.q) (.int .i64 p7.n);have e1:c + ((1 + bmeldN la bs + putTN (bmeld la bs) (lnk f g):Nat):Int) = c + (bmeldN la bs:Nat) + (lnkN (some f) (some g):Nat) + (putTN (bmeld la bs) (lnk f g):Nat):=by simp only [lnkN];omega
 have e2:m + ((1 + bmeldN la bs + putTN (bmeld la bs) (lnk f g):Nat):Int) = m + (bmeldN la bs:Nat) + (lnkN (some f) (some g):Nat) + (putTN (bmeld la bs) (lnk f g):Nat):=by simp only [lnkN];omega
 exact bodyPost_ret (v:=hp p7) (by simp [results,Tryz.results338,go_sem,s0,s1]) rfl ⟨p7,rfl,by rw [HE.out.1];exact L7.out.set2 F7.out.r heapT_ne _ _,by rw [HE.out.2,e1,e2];exact k.mt,k.bt⟩
theorem melded_all (mo:Option Nat):∀ la bs:List Tre,MeldsTo mo la bs:=by
 refine bmeld_ind ?_ ?_ ?_ ?_ ?_
 ·exact fun b => meld_first mo b
 ·exact fun f a => meld_second mo f a
 ·exact fun f a g b h ih => meld_lt mo f g a b h ih
 ·exact fun f a g b h ih => meld_gt mo f g a b h ih
 ·exact fun f a g b h ih => meld_eq mo f g a b h ih
end Go.Proofs.YtmeodbjlmjpnbaaGreat.U.Hp
namespace Go.Proofs.YtmeodbjlmjpnbaaGreat.U.Hp
open Go.Sort Go.RowKit Go.Proofs.YtmeodbjlmjpnbaaGreat.U.Gn
theorem melded_any (mo:Option Nat) (la lb:List Tre) (c m:Int) (p q:HP) (w:World) (hs:bSize la + bSize lb < 268435456) (hm:MAt w mo c m) (h0:0 ≤ c) (h1:c < 576460752303423488) (h2:0 ≤ m) (h3:m < 576460752303423488) (ha:LAt w ⟨la⟩ p) (hb:LAt w ⟨lb⟩ q) (ra:rises la) (rb:rises lb) :
  Calls Tryz.prog 338 #[hp p,mAddr mo,hp q] w (Gave mo (c + bmeldN la lb) (m + bmeldN la lb) ⟨bmeld la lb⟩ w):=melded_all mo la lb c m p q w hs hm h0 h1 h2 h3 ha hb ra rb
theorem levN_size (l:List Tre):levN l ≤ bSize l:=by
 have h1:=levT_len l;have h2:=len_bSize l;omega
theorem levT_rises {l:List Tre} (h:sOk l):rises (levT l):=(levT_good h).2.2
theorem meldL (mo:Option Nat) (la lb:List Tre) (c m:Int) (p q:HP) (w:World) (hs:bSize la + bSize lb < 268435456) (hm:MAt w mo c m) (h0:0 ≤ c) (h1:c < 288230376151711744) (h2:0 ≤ m) (h3:m < 288230376151711744) (ha:LAt w ⟨la⟩ p) (hb:LAt w ⟨lb⟩ q) :
  Calls Tryz.prog 330 #[hp p,mAddr mo,hp q] w (Gave mo (c + smeldN la lb) (m + smeldN la lb) ⟨smeld la lb⟩ w):=by
 have HF:=hdz (Fm.new w p q);have KK:=hdz ((Trk.refl (N:=NodeT) hm).stay (new3_below w (.cells #[.pointer p.q,.int .i64 p.n] 257) (.cells #[.pointer q.q,.int .i64 q.n] 257) (.cells #[.pointer none,.int .i64 0] 257)));have HL:=hdz (anz (ha.stay (new3_below w (.cells #[.pointer p.q,.int .i64 p.n] 257) (.cells #[.pointer q.q,.int .i64 q.n] 257) (.cells #[.pointer none,.int .i64 0] 257))) (hb.stay (new3_below w (.cells #[.pointer p.q,.int .i64 p.n] 257) (.cells #[.pointer q.q,.int .i64 q.n] 257) (.cells #[.pointer none,.int .i64 0] 257))));have HO:=hdz (anz (show sOk la from ha.right) (show sOk lb from hb.right));have hz1:=levN_size la;have hz2:=levN_size lb;have HN:=hdz (anz hs (anz h0 (anz h1 (anz h2 (anz h3 (anz hz1 hz2))))));clear hs h0 h1 h2 h3 hm ha hb hz1 hz2;go_enter Tryz.func330,Tryz.ntmps330
 go_wp2_with fail
 generalize ((w.alloc (.cells #[.pointer p.q,.int .i64 p.n] 257)).alloc (.cells #[.pointer q.q,.int .i64 q.n] 257)).alloc (.cells #[.pointer none,.int .i64 0] 257) = w1 at *;obtain ⟨a,ha⟩:=exq (w.heap.size);rw [← ha] at HF ⊢;have HA:=hdz ha;clear ha;((with_reducible refine (lev_any mo c m la p _ (by have:=HN.out;omega) KK.out.mt HN.out.2.1 (by have:=HN.out;omega) HN.out.2.2.2.1 (by have:=HN.out;omega) HL.out.1).mono ?_);rintro e w2 ⟨p5,rfl,ht,hm2,hb⟩);have hb4:Bt mo w1 (w2.alloc (.cells #[.pointer p5.q,.int .i64 p5.n] 257)):=hb.alloc _;have F3:=hdz (HF.out.bt hb4 KK.out.mt);have K3:=hdz (KK.out.turn (hm2.alloc (.cells #[.pointer p5.q,.int .i64 p5.n] 257)) hb4 node_ne);have L3:=hdz (anz (ht.stay (bqA (.cells #[.pointer p5.q,.int .i64 p5.n] 257))) (HL.out.2.bt hb4 KK.out.mt));have V3:=hdz (Box2.new w2 257 (.pointer p5.q) (.int .i64 p5.n));have HVL:=hdz (Nat.lt_of_lt_of_le HF.out.r.lt hb.size);clear ht hm2 hb hb4 HF KK HL;go_wp2_with fail
 generalize w2.alloc (.cells #[.pointer p5.q,.int .i64 p5.n] 257) = w3 at *;obtain ⟨v,hv⟩:=exq (w2.heap.size);rw [← hv] at V3 HVL ⊢;clear hv;have v0:=V3.out.c0;have v1:=V3.out.c1;have f2:=F3.out.o.c0;have f3:=F3.out.o.c1;have n1:¬ v = a + 1 + 1:=by have:=HVL.out;omega
 have n2:¬ a + 1 + 1 = v:=by have:=HVL.out;omega
 have n3:¬ a + 1 = a + 1 + 1:=by omega
 have n4:¬ a + 1 + 1 = a + 1:=by omega
 go_region_held3 (fun w' => w'.cell? ⟨v,0,none⟩ = some (.pointer p5.q) ∧ w'.cell? ⟨v,1,none⟩ = some (.int .i64 p5.n) ∧ w'.cell? ⟨a + 1,0,none⟩ = some (.pointer q.q) ∧ w'.cell? ⟨a + 1,1,none⟩ = some (.int .i64 q.n)) (go_keep)
  (first | (go_at_call 338;((with_reducible refine (melded_any mo (levT la) (levT lb) (c + levN la + levN lb) (m + levN la + levN lb) p5 p6 _ (by rw [levT_size,levT_size];exact HN.out.1) K4.out.mt (by have:=HN.out;omega) (by have:=HN.out;omega) (by have:=HN.out;omega) (by have:=HN.out;omega) L4.out.1 L4.out.2 (levT_rises HO.out.1) (levT_rises HO.out.2)).mono ?_);rintro e w5 ⟨p7,rfl,ht5,hm5,hb5⟩;have F5:=hdz (F4.out.bt hb5 K4.out.mt);have V5:=hdz (V4.out.bt hb5 K4.out.mt (by decide));have K5:=hdz (K4.out.turn hm5 hb5 node_ne);have L5:=hdz ht5;have kb0:=V5.out.c0;have kb1:=V5.out.c1;have kb2:=F5.out.o.c0;have kb3:=F5.out.o.c1;have r6:=F5.out.r.c0;have r7:=F5.out.r.c1;have z6:=F5.out.r.z0;have z7:=F5.out.r.z1;clear ht5 hm5 hb5)) | (go_at_call 337;((with_reducible refine (lev_any mo (c + levN la) (m + levN la) lb q _ (by have:=HN.out;omega) K3.out.drew.mt (by have:=HN.out;omega) (by have:=HN.out;omega) (by have:=HN.out;omega) (by have:=HN.out;omega) (L3.out.2.stay ((Below.refl _ _).drew))).mono ?_);rintro e w4 ⟨p6,rfl,ht4,hm4,hb4⟩;have F4:=hdz ((F3.out.stay ((Below.refl _ _).drew)).bt hb4 K3.out.drew.mt);have V4:=hdz ((V3.out.stay ((Below.refl _ _).drew)).bt hb4 K3.out.drew.mt (by decide));have K4:=hdz (K3.out.drew.turn hm4 hb4 node_ne);have L4:=hdz (anz ((L3.out.1.stay ((Below.refl _ _).drew)).bt hb4 K3.out.drew.mt) ht4);have ka0:=V4.out.c0;have ka1:=V4.out.c1;have ka2:=F4.out.o.c0;have ka3:=F4.out.o.c1;clear ht4 hm4 hb4)))
 go_wp2_with fail
 have s0:=(F5.out.r.set (.pointer p7.q) (.int .i64 p7.n)).c0;have s1:=(F5.out.r.set (.pointer p7.q) (.int .i64 p7.n)).c1;have hk:=K5.out.put2 F5.out.r heapT_ne (by decide) (by have:=HA.out;omega) (.pointer p7.q) (.int .i64 p7.n);have hmt:=hk.mt;rw [show c + (levN la:Nat) + (levN lb:Nat) + (bmeldN (levT la) (levT lb):Nat) = c + ((smeldN la lb:Nat):Int) from by unfold smeldN;omega,show m + (levN la:Nat) + (levN lb:Nat) + (bmeldN (levT la) (levT lb):Nat) = m + ((smeldN la lb:Nat):Int) from by unfold smeldN;omega] at hmt;exact bodyPost_ret (v:=hp p7) (by simp [results,Tryz.results330,go_sem,s0,s1]) rfl ⟨p7,rfl,L5.out.set2 F5.out.r heapT_ne _ _,hmt,hk.bt⟩
theorem meld_any (mo:Option Nat) (a b:Lh) (c m:Int) (p q:HP) (w:World) (hs:a.size + b.size < 268435456) (hm:MAt w mo c m) (h0:0 ≤ c) (h1:c < 288230376151711744) (h2:0 ≤ m) (h3:m < 288230376151711744)
  (ha:LAt w a p) (hb:LAt w b q):Calls Tryz.prog 330 #[hp p,mAddr mo,hp q] w (Gave mo (c + meldN a b) (m + meldN a b) (meld a b) w) :=
 meldL mo a.ts b.ts c m p q w hs hm h0 h1 h2 h3 ha hb
end Go.Proofs.YtmeodbjlmjpnbaaGreat.U.Hp
namespace Go.Proofs.YtmeodbjlmjpnbaaGreat.U.Hp
open Go.Sort Go.RowKit Go.Proofs.YtmeodbjlmjpnbaaGreat.U.Gn
theorem bSize_app:∀ a b:List Tre,bSize (a ++ b) = bSize a + bSize b
 | [],b => by simp [bSize]
 | t :: r,b => by simp only [List.cons_append,bSize,bSize_app r b];omega
theorem bSize_drop_le (l:List Tre) (i:Nat):bSize (l.drop i) ≤ bSize l:=by
 conv => rhs;rw [← List.take_append_drop i l]
 rw [bSize_app];omega
section
variable {w:World} {ts us:List Tre} {p q:HP}
theorem drop_h (h:LAt w ⟨ts⟩ p) (k:Nat) (hk:k < 2147483648):Calls Tryz.prog 162 #[hp p,.int .i64 (k:Int)] w fun e w' => ∃ p':HP,e = .returned (.agg #[.pointer p'.q,.int .i64 p'.n]) ∧ LAt w' ⟨ts.drop k⟩ p' ∧ Below w.heap.size w w':=by
 have hs:=h.small;have hok:sOk ts:=h.right;obtain ⟨ps,n,hn,hnl,hl,ht⟩:=h.list;obtain ⟨q0,pn⟩:=p;change pn = (n:Int) at hn;subst hn;refine (Lt.drop_l (k:Int) hl (by omega) (by omega)).mono fun e w' ⟨q',n',he,hl',hb⟩ => ⟨⟨q',(n':Int)⟩,he,?_,hb⟩;rw [show (k:Int).toNat = k from rfl] at hl';exact LAt.of hl' ((ht.drop k).kp (Kpt.below hb)) (Nat.lt_of_le_of_lt (bSize_drop_le ts k) hs) (sub_ok hok (List.drop_sublist k ts))
theorem restL_h (h:LAt w ⟨ts⟩ p):Calls Tryz.prog 160 #[hp p] w fun e w' => ∃ p':HP,e = .returned (.agg #[.pointer p'.q,.int .i64 p'.n]) ∧ LAt w' ⟨ts.tail⟩ p' ∧ Below w.heap.size w w':=by
 have hs:=h.small;have hok:sOk ts:=h.right;obtain ⟨ps,n,hn,hnl,hl,ht⟩:=h.list;obtain ⟨q0,pn⟩:=p;change pn = (n:Int) at hn;subst hn;refine (Lt.rest_l hl).mono fun e w' ⟨q',n',he,hl',hb⟩ => ⟨⟨q',(n':Int)⟩,he,?_,hb⟩;refine LAt.of hl' (ht.tail.kp (Kpt.below hb)) ?_ (sub_ok hok (List.tail_sublist ts));rw [← List.drop_one];exact Nat.lt_of_le_of_lt (bSize_drop_le ts 1) hs
theorem of_h {A:Option Addr} {n c:Nat} {ps:List (Option Addr)} (hr:Row1 Lt.one w A ps) (ht:TsAt w ts ps) (hn:n = ts.length) (hs:bSize ts < 268435456) (hok:sOk ts):Calls Tryz.prog 342 #[.slice A n c] w fun e w' => ∃ p':HP,e = .returned (.agg #[.pointer p'.q,.int .i64 p'.n]) ∧ LAt w' ⟨ts⟩ p' ∧ Below w.heap.size w w':=by
 have hl:=len_bSize ts;refine (Lt.of_l (hn.trans ht.length.symm) hr (by omega)).mono fun e w' ⟨q',n',he,hl',hb⟩ => ⟨⟨q',(n':Int)⟩,he,?_,hb⟩;exact LAt.of hl' (ht.kp (Kpt.below hb)) hs hok
theorem join_h (h:LAt w ⟨ts⟩ p) (h':LAt w ⟨us⟩ q) (hs:bSize (ts ++ us) < 268435456) (hok:sOk (ts ++ us)):Calls Tryz.prog 326 #[hp p,hp q] w fun e w' => ∃ p':HP,e = .returned (.agg #[.pointer p'.q,.int .i64 p'.n]) ∧ LAt w' ⟨ts ++ us⟩ p' ∧ Below w.heap.size w w':=by
 have g1:=h.len;have g2:=h'.len;change ts.length < _ at g1;change us.length < _ at g2;obtain ⟨ps,n,hn,hnl,hl,ht⟩:=h.list;obtain ⟨ps',n',hn',hnl',hl',ht'⟩:=h'.list;obtain ⟨q0,pn⟩:=p;obtain ⟨q1,pn'⟩:=q;change pn = (n:Int) at hn;change pn' = (n':Int) at hn';change n = ts.length at hnl;change n' = us.length at hnl';subst hn;subst hn';refine (Lt.join_l hl hl' (by omega)).mono fun e w' ⟨q',m',he,hl2,hb⟩ => ⟨⟨q',(m':Int)⟩,he,?_,hb⟩;exact LAt.of hl2 ((ht.append ht').kp (Kpt.below hb)) hs hok
end
structure TRow (mo:Option Nat) (W:World) (ts:List Tre) (A:Option Addr) (n c:Nat):Prop where
 ex:∃ ps,Row1 Lt.one W A ps ∧ TsAt W ts ps
 len:n = ts.length
 cap:n ≤ c
 apart:∀ b,mo = some b → ∀ a,A = some a → a.block ≠ b
section
variable {mo:Option Nat} {cc m:Int} {W W':World} {ts:List Tre} {A:Option Addr} {n c:Nat}
theorem TRow.bt (h:TRow mo W ts A n c) (hb:Bt mo W W') (hm:MAt W mo cc m):TRow mo W' ts A n c:=by
 obtain ⟨ps,hr,ht⟩:=h.ex;exact ⟨⟨ps,fun h0 => (hr h0).imp fun b hb1 => hb1.imp fun o ho => ⟨ho.1,fun j hj => hb.cell (ho.2 j hj) (fun mb e => h.apart mb e ⟨b,o,none⟩ ho.1)⟩,ht.bt hb hm⟩,h.len,h.cap,h.apart⟩
theorem TRow.stay (h:TRow mo W ts A n c) (hb:Below W.heap.size W W'):TRow mo W' ts A n c:=by
 obtain ⟨ps,hr,ht⟩:=h.ex;exact ⟨⟨ps,hr.stay hb,ht.kp (Kpt.below hb)⟩,h.len,h.cap,h.apart⟩
theorem TRow.set2 (h:TRow mo W ts A n c) {b:Nat} {t:TypeId} {x y:Value} (hne:∀ a,A = some a → a.block ≠ b) (hx:Box2 W b t x y) (ht:¬ NodeT t) (u v:Value):TRow mo ((W.setCell ⟨b,0,Option.none⟩ u).setCell ⟨b,1,Option.none⟩ v) ts A n c:=by
 obtain ⟨ps,hr,hts⟩:=h.ex;exact ⟨⟨ps,fun h0 => (hr h0).imp fun b' hb1 => hb1.imp fun o ho => ⟨ho.1,fun j hj => cell_aside (hne ⟨b',o,none⟩ ho.1) (ho.2 j hj) u v⟩,hts.set2 hx ht u v⟩,h.len,h.cap,h.apart⟩
theorem TRow.at (h:TRow mo W ts A n c) {j:Nat} (hj:j < n):∃ b o p,A = some ⟨b,o,none⟩ ∧ W.cell? ⟨b,o + j,none⟩ = some (.pointer p) ∧ TAt W p (some (ts[j]'(h.len ▸ hj))):=by
 obtain ⟨ps,hr,ht⟩:=h.ex;have hl:=ht.length;obtain ⟨p,hp,hta⟩:=ht.at (List.getElem?_eq_getElem (h.len ▸ hj));obtain ⟨b,o,rfl⟩:=row_some hr (by have:=h.len;omega);exact ⟨b,o,p,rfl,row_ptr hr hp,hta⟩
theorem TRow.take (h:TRow mo W ts A n c) (k:Nat):∃ ps,Row1 Lt.one W A ps ∧ TsAt W (ts.take k) ps:=by
 obtain ⟨ps,hr,ht⟩:=h.ex;refine ⟨ps.take k,fun h0 => ?_,ht.take k⟩;rw [List.length_take] at h0;obtain ⟨b,o,e,hc⟩:=hr (by omega);refine ⟨b,o,e,fun j hj => ?_⟩;rw [List.length_take] at hj;rw [List.getElem_take];exact hc j (by omega)
end
theorem all_h {mo:Option Nat} {cc m:Int} {ts:List Tre} {p:HP} {w:World} (h:LAt w ⟨ts⟩ p) (hm:MAt w mo cc m):Calls Tryz.prog 247 #[hp p] w fun e w' => ∃ (A:Option Addr) (n c:Nat),e = .returned (.slice A n c) ∧ TRow mo w' ts A n c ∧ (∀ a,A = some a → w.heap.size ≤ a.block) ∧ Below w.heap.size w w':=by
 obtain ⟨ps,n,hn,hnl,hl,ht⟩:=h.list;obtain ⟨q0,pn⟩:=p;change pn = (n:Int) at hn;subst hn;refine (Lt.all_l hl).mono fun e w' ⟨A,c,he,hmi,hr,hc,hb⟩ => ⟨A,n,c,he,⟨⟨ps,hr,ht.kp (Kpt.below hb)⟩,hnl,hc,fun b e a ea => ?_⟩,fun a ea => by subst ea;exact Mine.block hmi a.block rfl,hb⟩;subst e;subst ea;have h1:=Mine.block hmi a.block rfl;have h2:=hm.lt;omega
theorem leastK_step (l:List Tre) {i:Nat} (h:0 < i):leastK l i = if ltE (rootAt l i).key (rootAt l (leastK l (i - 1))).key = true then i else leastK l (i - 1):=by
 obtain ⟨j,rfl⟩:∃ j,i = j + 1:=⟨i - 1,by omega⟩;rfl
theorem idleS (w:World):CallsD Tryz.prog 351 #[] .returning w fun e u' w' => e = .returned (.tuple #[]) ∧ u' = .returning ∧ w' = w:=by
 refine callsD_of_wpS Tryz.func351 rfl fun c₀ cs hu => ?_;apply wpS_region
 cases c₀
 simp_all [wpOpsS,go_sem,recoverD,bodyPostS,results,Tryz.ntmps351,Tryz.results351]
theorem keyS_any (x:Thing) (w:World) (hx:KeyC w x):Calls Tryz.prog 350 #[hv x] w fun e w' => e = .returned (el x.key) ∧ Below w.heap.size w w':=by
 have hm:∀ (n:Nat) (w:World),(method (n + 1) 125 (.pointer (some ⟨x.a,0,none⟩)) "Key").run Tryz.prog w = .ok (212,.pointer (some ⟨x.a,0,none⟩)) w:=fun _ _ => by kernel_rfl
 have hb0:Below w.heap.size w (w.alloc (.cells #[.int .i64 0,.int .i64 0] 29)):=(Below.refl w.heap.size w).alloc (Nat.le_refl _) _;have HX:=hdz (hx.stay hb0);have HB:=hdz hb0;obtain ⟨p,q,hk⟩:∃ p q,x.key = (p,q):=⟨_,_,rfl⟩;have HK:=hdz hk;clear hx hk hb0;go_enter_defers Tryz.func350,Tryz.ntmps350
 go_wp2_with fail
 ((with_reducible refine (heapKey_any x _ HX.out).mono ?_);rintro e w1 ⟨rfl,hb1⟩);rw [HK.out];have hp:=(PairAt.new w 0 0 29).below hb1 (by simp);have hb:=HB.out.trans (hb1.mono HB.out.size);have hs:=hp.set p q;obtain ⟨e0,e1,f0,f1, -⟩:=hp;clear hb1;clear HB HX;go_wp2_with fail
 refine leaves_cons (f := 351) (args:=#[]) (by simp) (by simp [go_sem]) ?_;refine (idleS _).mono ?_;rintro e u' w'' ⟨rfl,rfl,rfl⟩;obtain ⟨k0,k1, -⟩:=hs;have hv:Below w.heap.size w ((w1.setCell ⟨w.heap.size,0,none⟩ (.int .i64 p)).setCell ⟨w.heap.size,1,none⟩ (.int .i64 q)):=(hb.setCell (Nat.le_refl _) _).setCell (Nat.le_refl _) _;simp [Leaves,settle,results,Tryz.results350,go_sem,k0,k1,hv,HK.out]
abbrev Box1 (W:World) (b:Nat) (t:TypeId) (v:Value):Prop:=W.heap[b]? = some (.cells #[v] t (0,0))
theorem box1_cell {W:World} {b:Nat} {t:TypeId} {v:Value} (h:Box1 W b t v):W.cell? ⟨b,0,none⟩ = some v:=by simp [World.cell?,h]
theorem box1_free {W:World} {b:Nat} {t:TypeId} {v:Value} (h:Box1 W b t v):W.frozen? ⟨b,0,none⟩ = false:=by simp [World.frozen?,h]
theorem boolT_ne:¬ NodeT 4 := by unfold NodeT TreeT;decide
structure Sk (mo:Option Nat) (W:World) (bm bl bs:Nat) (x:Int × Int) (is:Bool):Prop where
 m:Box1 W bm 49 (mAddr mo)
 l:Box2 W bl 29 (.int .i64 x.1) (.int .i64 x.2)
 s:Box1 W bs 4 (.bool is)
section
variable {W W':World} {mo:Option Nat} {c m:Int} {bm bl bs:Nat} {x:Int × Int} {is:Bool}
theorem Sk.bt (h:Sk mo W bm bl bs x is) (hb:Bt mo W W') (hm:MAt W mo c m):Sk mo W' bm bl bs x is:=⟨hb.row hm h.m (by decide),h.l.bt hb hm (by decide),hb.row hm h.s (by decide)⟩
theorem Sk.stay (h:Sk mo W bm bl bs x is) (hb:Below W.heap.size W W'):Sk mo W' bm bl bs x is:=⟨(hb.block _ (lt_of_heap h.m)).trans h.m,h.l.stay hb,(hb.block _ (lt_of_heap h.s)).trans h.s⟩
end
abbrev askV (bm bl bs:Nat):Value := .func (.func 349) #[] #[.pointer (some ⟨bs,0,none⟩),.pointer (some ⟨bm,0,none⟩),.pointer (some ⟨bl,0,none⟩)]
theorem seeker_any (mo:Option Nat) (w:World):Calls Tryz.prog 346 #[mAddr mo] w fun e w' => ∃ bm bl bs,e = .returned (askV bm bl bs) ∧ Sk mo w' bm bl bs (0,0) false ∧ (w.heap.size ≤ bm ∧ w.heap.size ≤ bl ∧ w.heap.size ≤ bs) ∧ Below w.heap.size w w':=by
 have hmf:∀ (fn:Fn) (first cap:Array Value) (w:World),(Instr.makeFunc fn first cap).run Tryz.prog w = .ok (.func fn first cap) w:=fun _ _ _ _ => rfl;have e1:(w.alloc (.cells #[mAddr mo] 49)).heap.size = w.heap.size + 1:=by simp
 have e2:((w.alloc (.cells #[mAddr mo] 49)).alloc (.cells #[.int .i64 0,.int .i64 0] 29)).heap.size = w.heap.size + 1 + 1:=by simp
 have hb1:Below w.heap.size w ((w.alloc (.cells #[mAddr mo] 49)).alloc (.cells #[.int .i64 0,.int .i64 0] 29)):=((Below.refl _ w).alloc (Nat.le_refl _) _).alloc (by simp) _;have hb2:Below w.heap.size w (((w.alloc (.cells #[mAddr mo] 49)).alloc (.cells #[.int .i64 0,.int .i64 0] 29)).alloc (.cells #[.bool false] 4)):=hb1.alloc (by omega) _
 have b1:Box1 (((w.alloc (.cells #[mAddr mo] 49)).alloc (.cells #[.int .i64 0,.int .i64 0] 29)).alloc (.cells #[.bool false] 4)) w.heap.size 49 (mAddr mo):=by
  have h:=new_at (W:=w) (o := .cells #[mAddr mo] 49) rfl;have h2:=(((Below.refl _ (w.alloc (.cells #[mAddr mo] 49))).alloc (Nat.le_refl _) (.cells #[.int .i64 0,.int .i64 0] 29)).alloc (by simp) (.cells #[.bool false] 4)).block w.heap.size (by simp);exact h2.trans h
 have b2:Box2 (((w.alloc (.cells #[mAddr mo] 49)).alloc (.cells #[.int .i64 0,.int .i64 0] 29)).alloc (.cells #[.bool false] 4)) (w.heap.size + 1) 29 (.int .i64 0) (.int .i64 0):=by
  have:=(Box2.new (w.alloc (.cells #[mAddr mo] 49)) 29 (.int .i64 0) (.int .i64 0)).alloc (.cells #[.bool false] 4);simpa only [e1] using this
 have b3:Box1 (((w.alloc (.cells #[mAddr mo] 49)).alloc (.cells #[.int .i64 0,.int .i64 0] 29)).alloc (.cells #[.bool false] 4)) (w.heap.size + 1 + 1) 4 (.bool false):=new_at (by omega);have H:=hdz (anz (show Sk mo _ w.heap.size (w.heap.size + 1) (w.heap.size + 1 + 1) (0,0) false from ⟨b1,b2,b3⟩) hb2);clear b1 b2 b3 hb1 hb2;go_enter Tryz.func346,Tryz.ntmps346
 go_wp2_with fail
 go_ret
 exact ⟨_,_,_,rfl,H.out.1,⟨Nat.le_refl _,by omega,by omega⟩,H.out.2⟩
structure Tn (mo:Option Nat) (b1 b2:Nat) (W W':World):Prop where
 os:W'.os = W.os
 tape:W'.tape = W.tape
 output:W'.output = W.output
 size:W.heap.size ≤ W'.heap.size
 block:∀ k,k < W.heap.size → mo ≠ some k → k ≠ b1 → k ≠ b2 → W'.heap[k]? = W.heap[k]?
section
variable {W W' W'':World} {mo:Option Nat} {c m:Int} {b1 b2:Nat} {w:World}
theorem Tn.ofBt (h:Bt mo W W'):Tn mo b1 b2 W W':=⟨h.os,h.tape,h.output,h.size,fun k hk h1 _ _ => h.block k hk h1⟩
theorem Tn.trans (h:Tn mo b1 b2 W W') (k:Tn mo b1 b2 W' W''):Tn mo b1 b2 W W'' :=
 ⟨k.os.trans h.os,k.tape.trans h.tape,k.output.trans h.output,Nat.le_trans h.size k.size,fun i hi h1 h2 h3 => (k.block i (Nat.lt_of_lt_of_le hi h.size) h1 h2 h3).trans (h.block i hi h1 h2 h3)⟩
theorem Tn.bt (h:Tn mo b1 b2 W W') (hb:Bt mo w W) (h1:w.heap.size ≤ b1) (h2:w.heap.size ≤ b2):Bt mo w W' :=
 ⟨h.os.trans hb.os,h.tape.trans hb.tape,h.output.trans hb.output,Nat.le_trans hb.size h.size,fun k hk hm => (h.block k (Nat.lt_of_lt_of_le hk hb.size) hm (by omega) (by omega)).trans (hb.block k hk hm)⟩
theorem Tn.set {b:Nat} (h:Tn mo b1 b2 W W') (hb:b = b1 ∨ b = b2) (j:Nat) (v:Value):Tn mo b1 b2 W (W'.setCell ⟨b,j,none⟩ v) :=
 ⟨h.os,h.tape,h.output,by simpa [World.setCell] using h.size,fun k hk hm h1 h2 => (Below.heap_setCell W' ⟨b,j,none⟩ v k (by show k ≠ b;rcases hb with rfl | rfl <;> assumption)).trans (h.block k hk hm h1 h2)⟩
theorem Tn.kpt {cs1 cs2:Array Value} {t1 t2:TypeId} (h:Tn mo b1 b2 W W') (hm:MAt W mo c m) (h1:W.heap[b1]? = some (.cells cs1 t1 (0,0))) (h2:W.heap[b2]? = some (.cells cs2 t2 (0,0))) (n1:¬ NodeT t1) (n2:¬ NodeT t2):Kp W W':=fun k cs t ht e => by
 refine (h.block k (lt_of_heap e) (fun em => ?_) (fun ek => ?_) (fun ek => ?_)).trans e
 ·subst em;have hm':W.heap[k]? = _:=hm;rw [hm'] at e
  cases e
  exact node_ne ht
 ·subst ek;rw [h1] at e;cases e;exact n1 ht
 ·subst ek;rw [h2] at e;cases e;exact n2 ht
theorem TRow.tn {cs1 cs2:Array Value} {t1 t2:TypeId} {ts:List Tre} {A:Option Addr} {n k:Nat} (r:TRow mo W ts A n k) (h:Tn mo b1 b2 W W') (hm:MAt W mo c m) (h1:W.heap[b1]? = some (.cells cs1 t1 (0,0))) (h2:W.heap[b2]? = some (.cells cs2 t2 (0,0))) (n1:¬ NodeT t1) (n2:¬ NodeT t2) (ha:∀ a,A = some a → a.block ≠ b1 ∧ a.block ≠ b2):TRow mo W' ts A n k:=by
 obtain ⟨ps,hr,hts⟩:=r.ex;refine ⟨⟨ps,fun h0 => (hr h0).imp fun b' hb1 => hb1.imp fun o ho => ⟨ho.1,fun j hj => ?_⟩,hts.kp (h.kpt hm h1 h2 n1 n2)⟩,r.len,r.cap,r.apart⟩;have hc:=ho.2 j hj;exact (World.cell?_of_block (h.block b' (block_lt_of_cell hc) (fun e => r.apart b' e ⟨b',o,none⟩ ho.1 rfl) (ha ⟨b',o,none⟩ ho.1).1 (ha ⟨b',o,none⟩ ho.1).2)).trans hc
end
theorem Sk.took {W w:World} {mo:Option Nat} {c m:Int} {bm bl bs:Nat} {x:Int × Int} {is:Bool} (h:Sk mo W bm bl bs x is) (hm:MAt W mo c m) (ht:Tn mo bl bs w W) (hne:bs ≠ bl) (u1 u2:Int) :
  Sk mo (((W.setCell ⟨bl,0,none⟩ (.int .i64 u1)).setCell ⟨bl,1,none⟩ (.int .i64 u2)).setCell ⟨bs,0,none⟩ (.bool true)) bm bl bs (u1,u2) true ∧ MAt (((W.setCell ⟨bl,0,none⟩ (.int .i64 u1)).setCell ⟨bl,1,none⟩ (.int .i64 u2)).setCell ⟨bs,0,none⟩ (.bool true)) mo c m ∧ Tn mo bl bs w (((W.setCell ⟨bl,0,none⟩ (.int .i64 u1)).setCell ⟨bl,1,none⟩ (.int .i64 u2)).setCell ⟨bs,0,none⟩ (.bool true)):=by
 have hm1:W.heap[bm]? = some (.cells #[mAddr mo] 49 (0,0)):=h.m;have hl1:W.heap[bl]? = some (.cells #[.int .i64 x.1,.int .i64 x.2] 29 (0,0)):=h.l;have hs1:W.heap[bs]? = some (.cells #[.bool is] 4 (0,0)):=h.s;have nml:bm ≠ bl:=fun e => by rw [e,hl1] at hm1;cases hm1
 have nms:bm ≠ bs:=fun e => by rw [e,hs1] at hm1;cases hm1
 have hsv:((W.setCell ⟨bl,0,none⟩ (.int .i64 u1)).setCell ⟨bl,1,none⟩ (.int .i64 u2)).heap[bs]? = some (.cells #[.bool is] 4 (0,0)):=(Below.heap_setCell _ ⟨bl,1,none⟩ _ bs hne).trans ((Below.heap_setCell _ ⟨bl,0,none⟩ _ bs hne).trans hs1);refine ⟨⟨?_,?_,?_⟩,?_,((ht.set (.inl rfl) 0 _).set (.inl rfl) 1 _).set (.inr rfl) 0 _⟩
 ·exact (Below.heap_setCell _ ⟨bs,0,none⟩ _ bm nms).trans ((Below.heap_setCell _ ⟨bl,1,none⟩ _ bm nml).trans ((Below.heap_setCell _ ⟨bl,0,none⟩ _ bm nml).trans hm1))
 ·exact (Below.heap_setCell _ ⟨bs,0,none⟩ _ bl (fun e => hne e.symm)).trans (h.l.set (.int .i64 u1) (.int .i64 u2))
 ·exact heap_put (j:=0) hsv (.bool true)
 ·exact (((hm.other h.l (by decide) 0 _).other (h.l.set0 _) (by decide) 1 _).other hsv (by decide) 0 _)
theorem ask_all (mo:Option Nat) (c m:Int) (bm bl bs:Nat) (x:Int × Int) (is:Bool) (u:Tre) (pa:Option Addr) (w:World) (hm:MAt w mo c m) (h0:0 ≤ c) (h1:c < 4611686018427387904) (h:Sk mo w bm bl bs x is) (ht:TAt w pa (some u)) :
  Calls Tryz.prog 349 #[.pointer pa,.pointer (some ⟨bs,0,none⟩),.pointer (some ⟨bm,0,none⟩),.pointer (some ⟨bl,0,none⟩)] w fun e w' =>
   e = .returned (.bool (!is || ltE u.x.key x)) ∧ Sk mo w' bm bl bs (if (!is || ltE u.x.key x) = true then u.x.key else x) true ∧ MAt w' mo (c + if is = true then 1 else 0) m ∧ Tn mo bl bs w w':=by
 obtain ⟨ux,ubs,uks⟩:=u;have hkx:KeyC w ux:=by obtain ⟨b,rfl,hn⟩:=ht;exact hn.key
 obtain ⟨u1,u2,hu⟩:∃ u1 u2,ux.key = (u1,u2):=⟨_,_,rfl⟩;simp only [hu];obtain ⟨x1,x2⟩:=x;have H:=hdz (anz hm (anz h0 (anz h1 (anz h ht))));have HU:=hdz hu;have HKX:=hdz hkx;clear hm h0 h1 h ht hu hkx;go_enter Tryz.func349,Tryz.ntmps349
 go_wp2_with fail
 ((with_reducible refine (Go.Proofs.YtmeodbjlmjpnbaaGreat.U.root_any pa (some ⟨ux,ubs,uks⟩) _ H.out.2.2.2.2).mono ?_);rintro e w2 ⟨rfl,hb2⟩);rw [show rootV (some ⟨ux,ubs,uks⟩) = .tuple #[hv ux,.bool true] from rfl];have hb3:=hb2;have S3:=hdz (H.out.2.2.2.1.stay hb3);have M3:=hdz (H.out.1.stay hb3);have T3:=hdz (Tn.ofBt (b1:=bl) (b2:=bs) (Bt.ofBelow (mo:=mo) hb3));have HCC:=hdz (anz H.out.2.1 H.out.2.2.1);have HK3:=hdz (HKX.out.stay hb3);clear hb2 hb3 H HKX;go_wp2_with fail
 ((with_reducible refine (keyS_any ux _ HK3.out).mono ?_);rintro e w4 ⟨rfl,hb4⟩);rw [HU.out];have hb5:=hb4.alloc hb4.size (.cells #[.int .i64 u1,.int .i64 u2] 29);have S5:=hdz (S3.out.stay hb5);have M5:=hdz (M3.out.stay hb5);have T5:=hdz (T3.out.trans (Tn.ofBt (Bt.ofBelow (mo:=mo) hb5)));have B5:=hdz (Box2.new w4 29 (.int .i64 u1) (.int .i64 u2));have HLT:=hdz (show bl < w4.heap.size ∧ bs < w4.heap.size from ⟨Nat.lt_of_lt_of_le S3.out.l.lt hb4.size,Nat.lt_of_lt_of_le (lt_of_heap S3.out.s) hb4.size⟩);have HNE:=hdz (show bs ≠ bl from fun e => by have h1:w2.heap[bs]? = _:=S3.out.s;have h2:w2.heap[bl]? = _:=S3.out.l;rw [e,h2] at h1;cases h1);clear hb4 hb5 S3 M3 T3;have b0:=B5.out.c0;have b1:=B5.out.c1;have s0:=box1_cell S5.out.s;have z0:=S5.out.l.z0;have z1:=S5.out.l.z1;have y0:=S5.out.l.c0;have y1:=S5.out.l.c1;have sz:=box1_free S5.out.s;have n1:¬ bs = bl:=HNE.out;have n2:¬ bl = bs:=fun e => HNE.out e.symm;have n3:¬ w4.heap.size = bl:=by have:=HLT.out;omega
 have n4:¬ bl = w4.heap.size:=by have:=HLT.out;omega
 have m0:=box1_cell S5.out.m
 cases is with
 | false =>
  go_wp2_with fail
  go_ret
  obtain ⟨k1,k2,k3⟩:=S5.out.took M5.out T5.out HNE.out u1 u2;exact ⟨rfl,k1,by simpa using k2,k3⟩
 | true =>
  go_wp2_with fail
  ((with_reducible refine (mLess mo c m (u1,u2) (x1,x2) _ M5.out HCC.out.1 HCC.out.2).mono ?_);rintro e w6 ⟨rfl,hm6,hb6⟩);have S6:=hdz (S5.out.bt hb6 M5.out);have M6:=hdz hm6;have T6:=hdz (T5.out.trans (Tn.ofBt hb6));have B6:=hdz (B5.out.bt hb6 M5.out (by decide));clear hm6 hb6 b0 b1 s0 z0 z1 y0 y1 sz m0 B5 S5 M5 T5;have b0:=B6.out.c0;have b1:=B6.out.c1;have z0:=S6.out.l.z0;have z1:=S6.out.l.z1;have y0:=S6.out.l.c0;have y1:=S6.out.l.c1;have s0:=box1_cell S6.out.s;have sz:=box1_free S6.out.s
  cases hv:ltE (u1,u2) (x1,x2) with
  | true =>
   go_wp2_with fail
   go_ret
   obtain ⟨k1,k2,k3⟩:=S6.out.took M6.out T6.out HNE.out u1 u2;exact ⟨rfl,k1,k2,k3⟩
  | false =>
   go_wp2_with fail
   go_ret
   exact ⟨rfl,S6.out,M6.out,T6.out⟩
end Go.Proofs.YtmeodbjlmjpnbaaGreat.U.Hp
namespace Go.Proofs.YtmeodbjlmjpnbaaGreat.U.Hp
open Go.Sort Go.RowKit Go.Proofs.YtmeodbjlmjpnbaaGreat.U.Gn
theorem place_any (mo:Option Nat) (c m:Int) (t:Lh) (p:HP) (w:World) (hm:MAt w mo c m) (h0:0 ≤ c) (h1:c < 1152921504606846976) (h:LAt w t p) :
  Calls Tryz.prog 336 #[hp p,mAddr mo] w fun e w' => e = .returned (.int .i64 (leastI t.ts:Nat)) ∧ MAt w' mo (c + t.tellN) m ∧ Bt mo w w':=by
 obtain ⟨ts⟩:=t;have hlen:=h.len;change ts.length < _ at hlen;have hb1:Below w.heap.size w (w.alloc (.cells #[.pointer p.q,.int .i64 p.n] 257)):=(Below.refl _ w).alloc (Nat.le_refl _) _;have HX:=hdz (Box2.new w 257 (.pointer p.q) (.int .i64 p.n));have H:=hdz (anz (h.stay hb1) (anz (Bt.ofBelow (mo:=mo) hb1) (anz (hm.stay hb1) (anz h0 (anz h1 hlen)))));clear h hm hb1 h0 h1 hlen;go_enter Tryz.func336,Tryz.ntmps336
 go_wp2_with fail
 ((with_reducible refine (seeker_any mo _).mono ?_);rintro e w2 ⟨bm,bl,bs,rfl,hS,hL,hb2⟩);have B2:=hdz (HX.out.stay hb2);have c0:=B2.out.c0;have c1:=B2.out.c1;have H2:=hdz (anz (H.out.1.stay hb2) (anz (H.out.2.1.trans (Bt.ofBelow hb2)) (anz (H.out.2.2.1.stay hb2) hS)));have HB:=hdz (show w.heap.size ≤ bl ∧ w.heap.size ≤ bs from ⟨Nat.le_trans (by simp) hL.2.1,Nat.le_trans (by simp) hL.2.2⟩);have HN0:=hdz H.out.2.2.2;clear hS hL hb2 HX H;go_wp2_with fail
 ((with_reducible refine (all_h H2.out.1 H2.out.2.2.1).mono ?_);rintro e w3 ⟨A,n,ca,rfl,hr,hab,hb3⟩);have X:=hdz (anz hr (anz (H2.out.2.1.trans (Bt.ofBelow hb3)) (anz (H2.out.2.2.1.stay hb3) (H2.out.2.2.2.stay hb3))));have hn:n = ts.length:=hr.len;have HN:=hdz hn;have HAB:=hdz (show ∀ a,A = some a → a.block ≠ bl ∧ a.block ≠ bs from fun a ea => by have h1:=hab a ea;have h2:=H2.out.2.2.2.l.lt;have h3:=lt_of_heap H2.out.2.2.2.s;omega);clear hr hb3 hn hab c0 c1 H2 B2;go_wp2_with fail
 go_loopg [5,15] n (fun k s iv wr => ∃ (i pl:Nat) (x:Int × Int),iv = .int .i64 (i:Int) ∧ s = .int .i64 (pl:Int) ∧ i + k = n ∧ Sk mo wr bm bl bs x (decide (0 < i)) ∧ (pl = leastK ts (i - 1)) ∧ (0 < i → x = (rootAt ts pl).key) ∧ Bt mo w wr ∧ TRow mo wr ts A n ca ∧ MAt wr mo (c + ((i - 1:Nat):Int)) m)
 case atStart => exact ⟨0,0,(0,0),rfl,rfl,by omega,X.out.2.2.2,rfl,fun h => absurd h (by omega),X.out.2.1,X.out.1,by simpa using X.out.2.2.1⟩
 case round =>
  obtain ⟨i,pl,⟨x1,x2⟩,rfl,rfl,hi,hsk,hpl,hx,hbt,htr,hm⟩:=hrel;by_cases hlt:i < n
  ·obtain ⟨bA,oA,pa,rfl,hcell,hta⟩:=htr.at hlt;have g1:decide ((i:Int) < (n:Int)) = true:=by simp;omega
   have g2:(i:Int) < (n:Int):=by omega
   have g3:(0:Int) ≤ (i:Int):=by omega
   have hil:i < ts.length:=by have:=HN.out;omega
   have hroot:rootAt ts i = (ts[i]).x:=by unfold rootAt;rw [List.getElem?_eq_getElem hil]
   generalize ts[i] = u at *;have hw2:IntKind.i64.wrap ((i:Int) + 1) = ((i + 1:Nat):Int):=by have:=HN.out;have:=HN0.out;rw [IntKind.wrap_i64];omega
   have hw3:wrap64 ((i:Int) + 1) = ((i + 1:Nat):Int):=by have:=HN.out;have:=HN0.out;unfold wrap64;omega
   obtain ⟨r,hrr⟩:=exq ((!(decide (0 < i)) || ltE u.x.key (x1,x2)));have Y:=hdz (anz hi (anz hsk (anz hpl (anz hx (anz hbt (anz htr (anz hm (anz hta (anz hroot hrr)))))))));clear hi hsk hpl hx hbt htr hm hta hil hroot hrr;go_wp2_with fail
   ((with_reducible refine (ask_all mo (c + ((i - 1:Nat):Int)) m bm bl bs (x1,x2) (decide (0 < i)) u pa _ Y.out.2.2.2.2.2.2.1 (by have:=HN0.out;omega) (by have:=HN0.out;have:=HN.out;omega) Y.out.2.1 Y.out.2.2.2.2.2.2.2.1).mono ?_);rintro e w5 ⟨rfl,hs5,hm5,ht5⟩);rw [← Y.out.2.2.2.2.2.2.2.2.2] at hs5 ⊢
   have hstep:0 < i → leastK ts i = if r = true then i else pl:=fun h0 => by
    rw [leastK_step ts h0,Y.out.2.2.2.2.2.2.2.2.1,← Y.out.2.2.1,← Y.out.2.2.2.1 h0,Y.out.2.2.2.2.2.2.2.2.2];simp [h0]
   have hzero:¬ 0 < i → i = 0 ∧ r = true:=fun h0 => ⟨by omega,by rw [Y.out.2.2.2.2.2.2.2.2.2];simp [h0]⟩
   have hmm:MAt w5 mo (c + ((i + 1 - 1:Nat):Int)) m:=by
    have e:c + ((i + 1 - 1:Nat):Int) = c + ((i - 1:Nat):Int) + (if decide (0 < i) = true then 1 else 0):=by
     by_cases h0:0 < i
     ·simp only [h0,decide_true,if_true];omega
     ·simp only [h0,decide_false];simp;omega
    rw [e];exact hm5
   have hb5:=ht5.bt Y.out.2.2.2.2.1 HB.out.1 HB.out.2;have htr5:=Y.out.2.2.2.2.2.1.tn ht5 Y.out.2.2.2.2.2.2.1 Y.out.2.1.l Y.out.2.1.s elemT_ne boolT_ne HAB.out;have Z:=hdz (anz hs5 (anz hstep (anz hzero (anz hmm (anz hb5 htr5)))));clear hs5 hstep hzero hmm hb5 htr5 hm5 ht5 hcell
   cases r with
   | true =>
    go_wp2_with fail
    go_roundg (n - 1 - i)
    case measure => have:=Y.out.1;omega
    case rel =>
     refine ⟨i + 1,i,u.x.key,rfl,rfl,by have:=Y.out.1;omega,by have:=Z.out.1;simpa using this,?_,fun _ => congrArg Thing.key Y.out.2.2.2.2.2.2.2.2.1.symm,Z.out.2.2.2.2.1,Z.out.2.2.2.2.2,Z.out.2.2.2.1⟩;rw [show i + 1 - 1 = i from rfl];by_cases h0:0 < i
     ·rw [Z.out.2.1 h0];rfl
     ·obtain ⟨h1, -⟩:=Z.out.2.2.1 h0;subst h1;rfl
   | false =>
    have hpos:0 < i:=by
     by_cases h0:0 < i
     ·exact h0
     ·have h1:=(Z.out.2.2.1 h0).2;cases h1
    go_wp2_with fail
    go_roundg (n - 1 - i)
    case measure => have:=Y.out.1;omega
    case rel =>
     refine ⟨i + 1,pl,(x1,x2),rfl,rfl,by have:=Y.out.1;omega,by have:=Z.out.1;simpa using this,?_,fun _ => Y.out.2.2.2.1 hpos,Z.out.2.2.2.2.1,Z.out.2.2.2.2.2,Z.out.2.2.2.1⟩;rw [show i + 1 - 1 = i from rfl,Z.out.2.1 hpos];rfl
  ·have hin:i = n:=by omega
   have g1:decide ((i:Int) < (n:Int)) = false:=by simp;omega
   have g2:¬ (i:Int) < (n:Int):=by omega
   have hfin:pl = leastI ts:=by rw [hpl];unfold leastI;rw [hin,HN.out]
   have hct:((i - 1:Nat):Int) = ((Lh.mk ts).tellN:Nat):=by show _ = ((ts.length - 1:Nat):Int);rw [hin,HN.out]
   have Y:=hdz (anz hbt (show MAt wr mo (c + (Lh.mk ts).tellN) m from hct ▸ hm));clear hi hsk hpl hx hbt htr hm;go_wp2_with fail
   go_ret
   exact ⟨by first | rfl | rw [hfin],Y.out.2,Y.out.1⟩
end Go.Proofs.YtmeodbjlmjpnbaaGreat.U.Hp
