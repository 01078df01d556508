/- Contract of pairing.paired, told that two heaps are melded by Meld: the heap of kids, each two melded, then what came of them from the last one on; how many comparisons and nodes the meter counts; what was there stays, but for the meter's block. Conditions: fewer than 2 to the 27th elements, counts below 2 to the 59th. -/
import Derived.Test.YtmeodbjlmjpnbaaGreatPpa
import Derived.Deep.LoopGhost
import Derived.Test.YtmeodbjlmjpnbaaGreatPa
import Derived.Handy
set_option maxRecDepth 100000
set_option maxHeartbeats 8000000
namespace Go.Proofs.YtmeodbjlmjpnbaaGreat.Pd
open Go.Sort Go.RowKit
def Kd.twos:Kd → List Lh
 | .nil => []
 | .cons x ks .nil => [.node x ks]
 | .cons x ks (.cons y ls r) => meld (.node x ks) (.node y ls) :: r.twos
def Kd.twosN:Kd → Nat
 | .nil => 0
 | .cons _ _ .nil => 0
 | .cons x ks (.cons y ls r) => meldN (.node x ks) (.node y ls) + r.twosN
def foldH:List Lh → Lh
 | [] => .nil
 | t :: ts => meld t (foldH ts)
def foldHN:List Lh → Nat
 | [] => 0
 | t :: ts => foldHN ts + meldN t (foldH ts)
def sizes:List Lh → Nat
 | [] => 0
 | t :: ts => t.size + sizes ts
theorem sizes_append:∀ a b:List Lh,sizes (a ++ b) = sizes a + sizes b
 | [],b => by simp [sizes]
 | t :: a,b => by simp only [List.cons_append,sizes,sizes_append a b];omega
theorem sizes_reverse:∀ a:List Lh,sizes a.reverse = sizes a
 | [] => rfl
 | t :: a => by rw [List.reverse_cons,sizes_append,sizes_reverse a];simp only [sizes];omega
theorem sizes_take (a:List Lh) (j:Nat):sizes (a.take j) ≤ sizes a:=by
 conv => rhs;rw [← List.take_append_drop j a]
 rw [sizes_append];omega
theorem foldH_size:∀ l:List Lh,(foldH l).size = sizes l
 | [] => rfl
 | t :: ts => by simp only [foldH,sizes,meld_size,foldH_size ts]
theorem foldHN_le:∀ l:List Lh,foldHN l ≤ l.length
 | [] => Nat.le_refl _
 | t :: ts => by simp only [foldHN,List.length_cons];have:=foldHN_le ts;have:=meldN_le t (foldH ts);omega
theorem Kd.twos_sizes:∀ ks:Kd,sizes ks.twos = ks.size
 | .nil => rfl
 | .cons x ks .nil => by simp only [Kd.twos,sizes,Lh.size,Kd.size]
 | .cons x ks (.cons y ls r) => by simp only [Kd.twos,sizes,Kd.size,r.twos_sizes];rw [meld_size];simp only [Lh.size];omega
theorem Kd.twosN_le:∀ ks:Kd,ks.twosN ≤ ks.size
 | .nil => Nat.le_refl _
 | .cons x ks .nil => Nat.zero_le _
 | .cons x ks (.cons y ls r) => by simp only [Kd.twosN,meldN_two,Kd.size];have:=r.twosN_le;omega
theorem Kd.twos_length:∀ ks:Kd,ks.twos.length ≤ ks.size
 | .nil => Nat.le_refl _
 | .cons x ks .nil => by simp only [Kd.twos,List.length_cons,List.length_nil,Kd.size];omega
 | .cons x ks (.cons y ls r) => by simp only [Kd.twos,List.length_cons,Kd.size];have:=r.twos_length;omega
theorem Kd.pair_fold:∀ ks:Kd,ks.pair = foldH ks.twos
 | .nil => rfl
 | .cons x ks .nil => rfl
 | .cons x ks (.cons y ls r) => by rw [pair_two,Kd.twos,foldH,r.pair_fold]
theorem Kd.pairN_fold:∀ ks:Kd,ks.pairN = ks.twosN + foldHN ks.twos
 | .nil => rfl
 | .cons x ks .nil => rfl
 | .cons x ks (.cons y ls r) => by simp only [Kd.pairN,Kd.twosN,Kd.twos,foldHN,r.pairN_fold,r.pair_fold];omega
theorem Kd.twos_step {r:Kd} (h:r.is = true):r.twos = meld r.head r.tail.head :: r.tail.tail.twos:=by
 match r,h with
 | .cons x ks .nil,_ => rfl
 | .cons x ks (.cons y ls r),_ => rfl
theorem Kd.twosN_step {r:Kd} (h:r.is = true):r.twosN = meldN r.head r.tail.head + r.tail.tail.twosN:=by
 match r,h with
 | .cons x ks .nil,_ => rfl
 | .cons x ks (.cons y ls r),_ => rfl
theorem Kd.size_step {r:Kd} (h:r.is = true):r.size = r.head.size + r.tail.head.size + r.tail.tail.size:=by
 match r,h with
 | .cons x ks .nil,_ => simp only [Kd.size,Kd.head,Kd.tail,Lh.size]
 | .cons x ks (.cons y ls r),_ => simp only [Kd.size,Kd.head,Kd.tail,Lh.size];omega
theorem Kd.len_pos {r:Kd} (h:0 < r.len):r.is = true:=by cases r with
 | nil => simp [Kd.len] at h
 | cons => rfl
theorem Kd.len_zero {r:Kd} (h:r.len = 0):r = .nil:=by cases r with
 | nil => rfl
 | cons => simp [Kd.len] at h
theorem Kd.tail_len {r:Kd} (h:r.is = true):r.tail.tail.len < r.len:=by
 match r,h with
 | .cons x ks .nil,_ => simp only [Kd.len,Kd.tail];omega
 | .cons x ks (.cons y ls r),_ => simp only [Kd.len,Kd.tail];omega
section
variable {mo:Option Nat} {c m:Int} {W W':World}
theorem LAt.bt {t:Lh} {p:Option Addr} (h:LAt W t p) (hb:Bt mo W W') (hm:MAt W mo c m):LAt W' t p:=h.kp (hb.kpt hm node_ne)
theorem KAt.bt {t:Kd} {p:Option Addr} (h:KAt W t p) (hb:Bt mo W W') (hm:MAt W mo c m):KAt W' t p:=h.kp (hb.kpt hm node_ne)
theorem LsAt.bt {ts:List Lh} {p:Option Addr} {n:Nat} (h:LsAt W ts p n) (hb:Bt mo W W') (hm:MAt W mo c m):LsAt W' ts p n:=h.kp (hb.kpt hm node_ne) hb.size
theorem HVar.stay {b:Nat} {p:Option Addr} (h:HVar W b p) (hb:Below W.heap.size W W'):HVar W' b p:=(hb.block b (lt_of_heap h)).trans h
theorem HVar.bt {b:Nat} {p:Option Addr} (h:HVar W b p) (hb:Bt mo W W') (hm:MAt W mo c m):HVar W' b p:=hb.row hm h (by decide)
theorem Kp.set2 {b:Nat} {t:TypeId} {x y:Value} (h:Box2 W b t x y) (ht:¬ NodeT t) (u v:Value):Kp W ((W.setCell ⟨b,0,none⟩ u).setCell ⟨b,1,none⟩ v):=(Kpt.set h ht 0 u).trans (Kpt.set (h.set0 u) ht 1 v)
theorem size_set2 (W:World) (b:Nat) (u v:Value):((W.setCell ⟨b,0,none⟩ u).setCell ⟨b,1,none⟩ v).heap.size = W.heap.size:=by simp [World.setCell]
theorem HVar.set2 {b b':Nat} {p:Option Addr} (h:HVar W b p) (hne:b ≠ b') (u v:Value):HVar ((W.setCell ⟨b',0,none⟩ u).setCell ⟨b',1,none⟩ v) b p:=(heap_other _ _ hne).trans ((heap_other _ _ hne).trans h)
end
structure Pst (mo:Option Nat) (w:World) (a:Nat) (r:Kd) (acc:List Lh) (p q:Option Addr) (n l:Nat) (c m:Int) (W:World):Prop where
 k:Box2 W a 242 (.pointer p) (.int .i64 (n:Int))
 rs:HVar W (a + 1) none
 t:Box2 W (a + 1 + 1) 242 (.pointer q) (.int .i64 (l:Int))
 ka:KAt W r p
 ta:LsAt W acc q l
 tr:Trk NodeT mo w c m W
 own:w.heap.size ≤ a
 len:n = r.len
structure Pq (mo:Option Nat) (w:World) (a bf bs:Nat) (r:Kd) (acc:List Lh) (hf hs:Lh) (p q pf ps:Option Addr) (n l:Nat) (c m:Int) (W:World):Prop where
 st:Pst mo w a r acc p q n l c m W
 f:HVar W bf pf
 s:HVar W bs ps
 lf:LAt W hf pf
 ls:LAt W hs ps
 nf:a + 1 + 1 < bf
 ns:a + 1 + 1 < bs
section
variable {mo:Option Nat} {w W W':World} {a bf bs:Nat} {r:Kd} {acc:List Lh} {hf hs:Lh} {p q pf ps:Option Addr} {n l:Nat} {c m c' m':Int}
theorem Pst.turn (h:Pst mo w a r acc p q n l c m W) (hm:MAt W' mo c' m') (hb:Bt mo W W'):Pst mo w a r acc p q n l c' m' W' :=
 ⟨h.k.bt hb h.tr.mt (by decide),h.rs.bt hb h.tr.mt,h.t.bt hb h.tr.mt (by decide),h.ka.bt hb h.tr.mt,h.ta.bt hb h.tr.mt,h.tr.turn hm hb node_ne,h.own,h.len⟩
theorem Pst.stay (h:Pst mo w a r acc p q n l c m W) (hb:Below W.heap.size W W'):Pst mo w a r acc p q n l c m W':=h.turn (h.tr.mt.stay hb) (Bt.ofBelow hb)
theorem Pq.turn (h:Pq mo w a bf bs r acc hf hs p q pf ps n l c m W) (hm:MAt W' mo c' m') (hb:Bt mo W W'):Pq mo w a bf bs r acc hf hs p q pf ps n l c' m' W' :=
 ⟨h.st.turn hm hb,h.f.bt hb h.st.tr.mt,h.s.bt hb h.st.tr.mt,h.lf.bt hb h.st.tr.mt,h.ls.bt hb h.st.tr.mt,h.nf,h.ns⟩
theorem Pq.stay (h:Pq mo w a bf bs r acc hf hs p q pf ps n l c m W) (hb:Below W.heap.size W W'):Pq mo w a bf bs r acc hf hs p q pf ps n l c m W':=h.turn (h.st.tr.mt.stay hb) (Bt.ofBelow hb)
theorem Pst.next {r':Kd} {acc':List Lh} {p' q':Option Addr} {n' l':Nat} (h:Pst mo w a r acc p q n l c m W) (hk:KAt W r' p') (hn:n' = r'.len) (ht:LsAt W acc' q' l') :
  Pst mo w a r' acc' p' q' n' l' c m ((((W.setCell ⟨a + 1 + 1,0,none⟩ (.pointer q')).setCell ⟨a + 1 + 1,1,none⟩ (.int .i64 (l':Int))).setCell ⟨a,0,none⟩ (.pointer p')).setCell ⟨a,1,none⟩ (.int .i64 (n':Int))):=by
 have k1:Kp W ((W.setCell ⟨a + 1 + 1,0,none⟩ (.pointer q')).setCell ⟨a + 1 + 1,1,none⟩ (.int .i64 (l':Int))):=Kp.set2 h.t listT_ne _ _;have b1:Box2 ((W.setCell ⟨a + 1 + 1,0,none⟩ (.pointer q')).setCell ⟨a + 1 + 1,1,none⟩ (.int .i64 (l':Int))) a 242 (.pointer p) (.int .i64 (n:Int)):=h.k.aside (by omega) _ _;have k2:=k1.trans (Kp.set2 b1 listT_ne (.pointer p') (.int .i64 (n':Int)));have t1:=h.tr.put2 h.t listT_ne (by decide) (by have:=h.own;omega) (.pointer q') (.int .i64 (l':Int));refine ⟨b1.set _ _,(h.rs.set2 (by omega) _ _).set2 (by omega) _ _,(h.t.set _ _).aside (by omega) _ _,hk.kp k2,ht.kp k2 (by rw [size_set2,size_set2];exact Nat.le_refl _),t1.put2 b1 listT_ne (by decide) h.own _ _,h.own,hn⟩
end
section
variable {w:World} {ks:Kd} {p:Option Addr} {n:Nat}
theorem drop_kn (h:KAt w ks p) (hn:n = ks.len) (hs:n < 2147483648):Calls Tryz.prog 300 #[Lt.lst p n,.int .i64 2] w fun e w' => ∃ (q:Option Addr) (n':Nat),e = .returned (Lt.lst q n') ∧ KAt w' ks.tail.tail q ∧ n' = ks.tail.tail.len ∧ Below w.heap.size w w':=by
 subst hn;exact (drop_k h hs).mono fun _ _ ⟨q,he,hk,hb⟩ => ⟨q,_,he,hk,rfl,hb⟩
theorem rest_kn (h:KAt w ks p) (hn:n = ks.len) (hs:n < 2147483648):Calls Tryz.prog 227 #[Lt.lst p n] w fun e w' => ∃ (q:Option Addr) (n':Nat),e = .returned (Lt.lst q n') ∧ KAt w' ks.tail q ∧ n' = ks.tail.len ∧ Below w.heap.size w w':=by
 subst hn;exact (rest_k h hs).mono fun _ _ ⟨q,he,hk,hb⟩ => ⟨q,_,he,hk,rfl,hb⟩
theorem push_hn {ts:List Lh} {t:Lh} {q:Option Addr} (h:LsAt w ts p n) (hq:LAt w t q) (hs:n + 1 < 2147483648):Calls Tryz.prog 146 #[Lt.lst p n,hp q] w fun e w' => ∃ (q':Option Addr) (n':Nat),e = .returned (Lt.lst q' n') ∧ LsAt w' (t :: ts) q' n' ∧ Below w.heap.size w w' :=
 (push_h h hq hs).mono fun _ _ ⟨q',he,hk,hb⟩ => ⟨q',_,he,hk,hb⟩
theorem first_kn {m:Int} (h:KAt w ks p):Calls Tryz.prog 226 #[Lt.lst p m] w fun e w' => ∃ (q:Option Addr) (b:Bool),e = .returned (.tuple #[hp q,.bool b]) ∧ LAt w' ks.head q ∧ Below w.heap.size w w':=by
 obtain ⟨ps,h1,h2⟩:=h.list
 cases ks with
 | nil =>
  obtain rfl:=h2;obtain rfl:=h1.nil;exact (Lt.first_nil m w).mono fun e w' ⟨he,hb⟩ => ⟨none,false,he,rfl,hb⟩
 | cons x ks r =>
  obtain ⟨q,ps',rfl,hq, -⟩:=h2;exact (Lt.first_cons p q ps' m w h1).mono fun e w' ⟨he,hb⟩ => ⟨q,true,he,LAt.stay hq hb,hb⟩
end
def RowAt (W:World) (base:Nat) (A:Option Addr) (L:Nat) (ps:List (Option Addr)):Prop :=
 L = ps.length ∧ ∀ j,j < L → ∃ (g:Nat) (x:Option Addr) (cur:Array Value),A = some ⟨g,0,none⟩ ∧ base ≤ g ∧ W.heap[g]? = some (.cells cur 113 (0,0)) ∧ ps[j]? = some x ∧ cur[j]? = some (.pointer x)
theorem rowAt_mine {W:World} {base:Nat} {A:Option Addr} {L k:Nat} {ps:List (Option Addr)} (h:Mine Lt.one 113 W base (.slice A L k) ps):RowAt W base A L ps:=by
 have h0:=h;rcases h.2 with ⟨e,hn⟩ | ⟨g,cap,cur,e,hb,hg,hc,hm,hs,ht⟩
 ·cases e
  exact ⟨hn.symm,fun j hj => absurd hj (by omega)⟩
 ·cases e
  refine ⟨rfl,fun j hj => ⟨g,ps[j],cur,rfl,hb,hg,List.getElem?_eq_getElem hj,?_⟩⟩;have hz:=h0.cells (g:=g) rfl j (.pointer ps[j]) (by simp [hj]);rw [add_flat,Nat.zero_add] at hz;simpa [World.cell?,hg] using hz
theorem RowAt.bt {mo:Option Nat} {c m:Int} {W W':World} {base:Nat} {A:Option Addr} {L:Nat} {ps:List (Option Addr)} (h:RowAt W base A L ps) (hb:Bt mo W W') (hm:MAt W mo c m):RowAt W' base A L ps :=
 ⟨h.1,fun j hj => by obtain ⟨g,x,cur,h1,h2,h3,h4,h5⟩:=h.2 j hj;exact ⟨g,x,cur,h1,h2,hb.row hm h3 (by decide),h4,h5⟩⟩
theorem RowAt.set {W:World} {base:Nat} {A:Option Addr} {L:Nat} {ps:List (Option Addr)} (h:RowAt W base A L ps) {b:Nat} (hb:b < base) (u:Value):RowAt (W.setCell ⟨b,0,none⟩ u) base A L ps :=
 ⟨h.1,fun j hj => by obtain ⟨g,x,cur,h1,h2,h3,h4,h5⟩:=h.2 j hj;exact ⟨g,x,cur,h1,h2,(heap_other _ _ (by omega)).trans h3,h4,h5⟩⟩
theorem HsAt.bt {mo:Option Nat} {c m:Int} {W W':World} {ts:List Lh} {ps:List (Option Addr)} (h:HsAt W ts ps) (hb:Bt mo W W') (hm:MAt W mo c m):HsAt W' ts ps:=h.kp (hb.kpt hm node_ne)
theorem HVar.put {W:World} {b:Nat} {p:Option Addr} (h:HVar W b p) (q:Option Addr):HVar (W.setCell ⟨b,0,none⟩ (.pointer q)) b q:=heap_put (j:=0) h _
theorem HVar.set {W:World} {b':Nat} {p:Option Addr} (h:HVar W b' p) {b:Nat} (hne:b' ≠ b) (off:Nat) (u:Value):HVar (W.setCell ⟨b,off,none⟩ u) b' p:=(heap_other _ _ hne).trans h
structure Pl (mo:Option Nat) (w:World) (a ba base:Nat) (acc:List Lh) (ps:List (Option Addr)) (A:Option Addr) (L j:Nat) (pa:Option Addr) (c m:Int) (W:World):Prop where
 v:HVar W ba pa
 r:HVar W (a + 1) none
 row:RowAt W base A L ps
 hs:HsAt W acc ps
 at_:LAt W (foldH (acc.take j).reverse) pa
 tr:Trk NodeT mo w (c + (foldHN (acc.take j).reverse:Nat)) (m + (foldHN (acc.take j).reverse:Nat)) W
 own:w.heap.size ≤ a
 ga:a + 1 < ba
 gb:ba < base
theorem Pl.bt {mo:Option Nat} {w W W':World} {a ba base:Nat} {acc:List Lh} {ps:List (Option Addr)} {A:Option Addr} {L j:Nat} {pa:Option Addr} {c m:Int} (h:Pl mo w a ba base acc ps A L j pa c m W) (hb:Below W.heap.size W W'):Pl mo w a ba base acc ps A L j pa c m W' :=
 have hz:Bt mo W W':=Bt.ofBelow hb;⟨h.v.bt hz h.tr.mt,h.r.bt hz h.tr.mt,h.row.bt hz h.tr.mt,h.hs.bt hz h.tr.mt,h.at_.bt hz h.tr.mt,h.tr.stay hb,h.own,h.ga,h.gb⟩
theorem fold_step (acc:List Lh) (j:Nat) (h:j < acc.length):(acc.take (j + 1)).reverse = acc[j] :: (acc.take j).reverse:=by
 rw [List.take_succ_eq_append_getElem h,List.reverse_append];rfl
theorem paired_any (mo:Option Nat) (c m:Int) (ks:Kd) (p:Option Addr) (n:Nat) (w:World) (hm:MAt w mo c m) (h0:0 ≤ c) (h1:c < 576460752303423488) (h2:0 ≤ m) (h3:m < 576460752303423488) (hk:KAt w ks p) (hn:n = ks.len) (hs:ks.size < 134217728) :
  Calls Tryz.prog 366 #[mAddr mo,Lt.lst p n,.func (.func 119) #[] #[]] w (Gave mo (c + ks.pairN) (m + ks.pairN) ks.pair w):=by
 have hb1:Below w.heap.size w (((w.alloc (.cells #[.pointer p,.int .i64 (n:Int)] 242)).alloc (.cells #[.pointer none] 113)).alloc (.cells #[.pointer none,.int .i64 0] 242)):=((bqA _).alloc (by simp) _).alloc (by simp only [World.size_alloc];omega) _
 have P1:Pst mo w w.heap.size ks [] p none n 0 c m (((w.alloc (.cells #[.pointer p,.int .i64 (n:Int)] 242)).alloc (.cells #[.pointer none] 113)).alloc (.cells #[.pointer none,.int .i64 0] 242)) :=
  ⟨((Box2.new w _ _ _).alloc _).alloc _,HVar.alloc (HVar.at (by simp)) _,by have:=Box2.new ((w.alloc (.cells #[.pointer p,.int .i64 (n:Int)] 242)).alloc (.cells #[.pointer none] 113)) 242 (.pointer none) (.int .i64 ((0:Nat):Int));simpa using this,hk.stay hb1,LsAt.none _,Trk.below hm hb1,Nat.le_refl _,hn⟩
 have X:=hdz P1;have HN:=hdz (show 0 ≤ c ∧ c < 576460752303423488 ∧ 0 ≤ m ∧ m < 576460752303423488 ∧ ks.size < 134217728 from ⟨h0,h1,h2,h3,hs⟩);clear P1 hb1 hm h0 h1 h2 h3 hk hn hs;go_enter Tryz.func366,Tryz.ntmps366
 go_wp2_with fail
 generalize ((w.alloc (.cells #[.pointer p,.int .i64 (n:Int)] 242)).alloc (.cells #[.pointer none] 113)).alloc (.cells #[.pointer none,.int .i64 0] 242) = w1 at *;obtain ⟨a,ha⟩:=exq (w.heap.size);rw [← ha] at X ⊢;clear ha;go_loopg [9] ks.len (fun k v wr => ∃ (r:Kd) (acc:List Lh) (p q:Option Addr) (n l k1:Nat),k = r.len ∧ acc.reverse ++ r.twos = ks.twos ∧ k1 + r.twosN = ks.twosN ∧ sizes acc + r.size = ks.size ∧ l ≤ ks.size ∧ Pst mo w a r acc p q n l (c + (k1:Int)) (m + (k1:Int)) wr)
 case atStart => exact ⟨ks,[],p,none,n,0,0,rfl,rfl,by omega,by simp [sizes],Nat.zero_le _,by simpa using X.out⟩
 case round =>
  obtain ⟨r,acc,p,q,n,l,k1,hgk,hac,hk1,hsz,hll,P⟩:=hrel;have hl1:=P.ta.len;have hrl:=r.len_le;have Q:=hdz (anz hgk (anz hac (anz hk1 (anz hsz (anz hll (anz P.len (anz hrl ks.twosN_le)))))));have P0:=hdz P;have k0:=P.k.c0;have k1':=P.k.c1;clear hgk hac hk1 hsz hll P hl1 hrl X;by_cases hpos:0 < n
  ·have his:r.is = true:=Kd.len_pos (by have:=Q.out;omega);have HIS:=hdz his;clear his;have q1:(0:Int) < (n:Int):=by omega
   have q2:decide ((0:Int) < (n:Int)) = true:=by simpa using hpos
   have q3:decide (0 < n) = true:=by simpa using hpos
   go_wp2_with fail
   ((with_reducible refine (Lt.len_l).mono ?_);rintro e w2 ⟨rfl,hb2⟩);have P2:=hdz (P0.out.stay hb2);clear hb2 P0 k0 k1';have k0:=P2.out.k.c0;have k1':=P2.out.k.c1;go_wp2_with fail
   ((with_reducible refine (first_kn P2.out.ka).mono ?_);rintro e w3 ⟨pf,b1,rfl,hf,hb3⟩);have P3:=hdz (P2.out.stay hb3);have V3:=hdz (anz (hf.stay (bqA (.cells #[.pointer pf] 113))) (HVar.at (W:=w3) (p:=pf) rfl));have P4:=hdz (P3.out.stay (bqA (.cells #[.pointer pf] 113)));clear hf hb3 P2 k0 k1';have k0:=P4.out.k.c0;have k1':=P4.out.k.c1;go_wp2_with fail
   generalize w3.alloc (.cells #[.pointer pf] 113) = w4 at *;obtain ⟨bf,hbf⟩:=exq (w3.heap.size);rw [← hbf] at V3 ⊢;have HBF:=hdz (show a + 1 + 1 < bf by rw [hbf];exact P3.out.t.lt);clear hbf P3;((with_reducible refine (rest_kn P4.out.ka P4.out.len (by have:=Q.out;have:=HN.out;omega)).mono ?_);rintro e w5 ⟨p5,n5,rfl,hk5,hn5,hb5⟩);have P5:=hdz (P4.out.stay hb5);have V5:=hdz (anz (V3.out.1.stay hb5) (V3.out.2.stay hb5));have K5:=hdz hk5;clear hk5 hn5 hb5 P4 V3 k0 k1';go_wp2_with fail
   ((with_reducible refine (first_kn K5.out).mono ?_);rintro e w6 ⟨ps,b2,rfl,hf,hb6⟩);have P6:=hdz (P5.out.stay hb6);have V6:=hdz (anz (V5.out.1.stay hb6) (V5.out.2.stay hb6));have hz:=(Below.refl w6.heap.size w6).alloc (Nat.le_refl _) (.cells #[.pointer ps] 113);have V7:=hdz (anz (hf.stay hz) (HVar.at (W:=w6) (p:=ps) rfl))
   have X7:=hdz (show Pq mo w a bf w6.heap.size r acc r.head r.tail.head p q pf ps n l (c + (k1:Int)) (m + (k1:Int)) (w6.alloc (.cells #[.pointer ps] 113)).drew from
    (Pq.mk (P6.out.stay hz) (V6.out.2.stay hz) V7.out.2 (V6.out.1.stay hz) V7.out.1 HBF.out P6.out.t.lt).stay ((Below.refl _ _).drew))
   clear hf hb6 P5 V5 K5 P6 V6 V7 hz;go_wp2_with fail
   obtain ⟨bs,hbs⟩:=exq (w6.heap.size);rw [← hbs] at X7 ⊢;clear hbs;refine wp_region_noPanic ?_;refine wp_region_held_drew (S:=fun w' => w'.cell? ⟨bf,0,none⟩ = some (.pointer pf) ∧ w'.cell? ⟨bs,0,none⟩ = some (.pointer ps)) (by kernel_rfl) ⟨X7.out.f.c0,X7.out.s.c0⟩ (fun hH => ?_);generalize (w6.alloc (.cells #[.pointer ps] 113)).drew = W0 at *;refine tk 1 hH ?_;try simp only [bkz]
   refine tk 2 hH ?_;try simp only [bkz]
   refine tk 3 hH ?_;try simp only [bkz]
   refine tk 4 hH ?_;try simp only [bkz]
   refine wpAnyH_ready (rs:=[0,5,7]) (by as_aux_lemma => kernel_rfl) (by simp) ?_;refine AllReadyH.cons (o:=_) rfl (fun K hK => ?_) (AllReadyH.cons (o:=_) rfl (fun K hK => ?_) (AllReadyH.cons (o:=_) rfl (fun K hK => ?_) AllReadyH.nil))
   ·have y0:=X7.out.st.t.c0;have y1:=X7.out.st.t.c1;go_simp;clear y0 y1;refine hK.out _ _ ?_ (fun hH2 => ?_)
    ·exact ⟨X7.out.f.c0,X7.out.s.c0⟩
    clear hK K hH;have hH:=hH2;clear hH2;try simp only [bkz]
    refine rd2 5 7 (fun K hK => ?_) (fun K hK => ?_)
    ·go_simp;(with_reducible refine (meld_any mo r.head r.tail.head (c + (k1:Int)) (m + (k1:Int)) pf ps _ (by have h5:=Kd.size_step HIS.out;have:=Q.out;have:=HN.out;omega) X7.out.st.tr.mt (by have:=HN.out;omega) (by have:=HN.out;have:=Q.out;omega) (by have:=HN.out;omega) (by have:=HN.out;have:=Q.out;omega) X7.out.lf X7.out.ls).mono ?_);rintro e WA ⟨pm,rfl,ht,hm,hb⟩;have XA:=hdz (X7.out.turn hm hb);have TA:=hdz ht;clear ht hm hb X7;refine hK.out _ _ ?_ (fun hH2 => ?_)
     ·exact ⟨XA.out.f.c0,XA.out.s.c0⟩
     clear hK K hH;have hH:=hH2;clear hH2;try simp only [bkz]
     refine rd2 6 7 (fun K hK => ?_) (fun K hK => ?_)
     focus
      go_simp;(with_reducible refine (push_hn XA.out.st.ta TA.out (by have:=Q.out;have:=HN.out;omega)).mono ?_);rintro e WB ⟨q6,l6,rfl,ht,hb⟩;have HL6:=hdz (show l6 ≤ ks.size by have h5:=ht.len;have h6:=XA.out.st.ta.len;have h7:=ks.twos_length;have h8:=congrArg List.length Q.out.2.1;rw [Kd.twos_step HIS.out] at h8;simp only [List.length_append,List.length_reverse,List.length_cons] at h8 h5;omega);have XB:=hdz (XA.out.stay hb);have T6:=hdz ht;clear ht hb XA TA;refine hK.out _ _ ?_ (fun hH2 => ?_)
      ·exact ⟨XB.out.f.c0,XB.out.s.c0⟩
      clear hK K hH;have hH:=hH2;clear hH2;try simp only [bkz]
      refine rd1 7 (fun K hK => ?_);have y0:=XB.out.st.k.c0;have y1:=XB.out.st.k.c1;go_simp;clear y0 y1
     rotate_left
     focus
      have y0:=XA.out.st.k.c0;have y1:=XA.out.st.k.c1;go_simp;clear y0 y1;refine hK.out _ _ ?_ (fun hH2 => ?_)
      ·exact ⟨XA.out.f.c0,XA.out.s.c0⟩
      clear hK K hH;have hH:=hH2;clear hH2;try simp only [bkz]
      refine rd1 6 (fun K hK => ?_);go_simp;(with_reducible refine (push_hn XA.out.st.ta TA.out (by have:=Q.out;have:=HN.out;omega)).mono ?_);rintro e WB ⟨q6,l6,rfl,ht,hb⟩;have HL6:=hdz (show l6 ≤ ks.size by have h5:=ht.len;have h6:=XA.out.st.ta.len;have h7:=ks.twos_length;have h8:=congrArg List.length Q.out.2.1;rw [Kd.twos_step HIS.out] at h8;simp only [List.length_append,List.length_reverse,List.length_cons] at h8 h5;omega);have XB:=hdz (XA.out.stay hb);have T6:=hdz ht;clear ht hb XA TA
     rotate_left
     all_goals
      refine hK.out _ _ ?_ (fun hH2 => ?_)
      ·exact ⟨XB.out.f.c0,XB.out.s.c0⟩
      clear hK K hH;have hH:=hH2;clear hH2;try simp only [bkz]
      refine rd1 8 (fun K hK => ?_);go_simp;(with_reducible refine (drop_kn XB.out.st.ka XB.out.st.len (by have:=Q.out;have:=HN.out;omega)).mono ?_);rintro e WC ⟨p8,n8,rfl,hk,hn,hb⟩;have XC:=hdz (XB.out.stay hb);have T6b:=hdz (T6.out.stay hb);have K8:=hdz hk;have HN8:=hdz hn;clear hk hn hb XB T6;have T6:=T6b;clear T6b;refine hK.out _ _ ?_ (fun hH2 => ?_)
      ·exact ⟨XC.out.f.c0,XC.out.s.c0⟩
      clear hK K hH;have hH:=hH2;clear hH2;try simp only [bkz]
      refine rd1 9 (fun K hK => ?_);have XS:=hdz XC.out.st;have HS9:=hdz (anz (XC.out.f.set2 (b':=a + 1 + 1) (by have:=XC.out.nf;omega) (.pointer q6) (.int .i64 (l6:Int))) (XC.out.s.set2 (b':=a + 1 + 1) (by have:=XC.out.ns;omega) (.pointer q6) (.int .i64 (l6:Int))));have HB9:=hdz (anz XC.out.nf XC.out.ns);have y0:=XS.out.t.c0;have y1:=XS.out.t.c1;have y2:=XS.out.t.z0;have y3:=XS.out.t.z1;go_simp;clear y0 y1 y2 y3;refine hK.out _ _ ?_ (fun hH2 => ?_)
      ·exact ⟨HS9.out.1.c0,HS9.out.2.c0⟩
      clear hK K hH;have hH:=hH2;clear hH2;try simp only [bkz]
      refine rd1 10 (fun K hK => ?_);have B9:=XS.out.k.aside (g:=a + 1 + 1) (by omega) (.pointer q6) (.int .i64 (l6:Int));have y0:=B9.c0;have y1:=B9.c1;have y2:=B9.z0;have y3:=B9.z1;have HS10:=hdz (anz (HS9.out.1.set2 (b':=a) (by have:=HB9.out;omega) (.pointer p8) (.int .i64 (n8:Int))) (HS9.out.2.set2 (b':=a) (by have:=HB9.out;omega) (.pointer p8) (.int .i64 (n8:Int))));clear B9;go_simp;clear y0 y1 y2 y3;refine hK.out _ _ ?_ (fun hH2 => ?_)
      ·exact ⟨HS10.out.1.c0,HS10.out.2.c0⟩
      clear hK K hH;have hH:=hH2;clear hH2;try simp only [bkz]
      refine dn ?_;clear hH;go_wp2_with fail
      go_roundg (r.tail.tail.len)
      case measure => have h5:=Kd.tail_len HIS.out;have:=Q.out;omega
      case rel => exact ⟨r.tail.tail,meld r.head r.tail.head :: acc,p8,q6,n8,l6,k1 + meldN r.head r.tail.head,rfl,by have h5:=Q.out.2.1;rw [Kd.twos_step HIS.out] at h5;rw [List.reverse_cons,List.append_assoc];exact h5,by have h5:=Kd.twosN_step HIS.out;have:=Q.out;omega,by have h5:=Kd.size_step HIS.out;have:=Q.out.2.2.2.1;simp only [sizes,meld_size];omega,by have h5:=HL6.out;omega,by have h5:=Pst.next XS.out K8.out HN8.out T6.out;have e1:c + ((k1 + meldN r.head r.tail.head:Nat):Int) = c + (k1:Int) + (meldN r.head r.tail.head:Nat):=(by omega);have e2:m + ((k1 + meldN r.head r.tail.head:Nat):Int) = m + (k1:Int) + (meldN r.head r.tail.head:Nat):=(by omega);rw [e1,e2];exact h5⟩
    ·have y0:=X7.out.st.k.c0;have y1:=X7.out.st.k.c1;go_simp;clear y0 y1;refine hK.out _ _ ?_ (fun hH2 => ?_)
     ·exact ⟨X7.out.f.c0,X7.out.s.c0⟩
     clear hK K hH;have hH:=hH2;clear hH2;try simp only [bkz]
     refine rd1 5 (fun K hK => ?_);go_simp;(with_reducible refine (meld_any mo r.head r.tail.head (c + (k1:Int)) (m + (k1:Int)) pf ps _ (by have h5:=Kd.size_step HIS.out;have:=Q.out;have:=HN.out;omega) X7.out.st.tr.mt (by have:=HN.out;omega) (by have:=HN.out;have:=Q.out;omega) (by have:=HN.out;omega) (by have:=HN.out;have:=Q.out;omega) X7.out.lf X7.out.ls).mono ?_);rintro e WA ⟨pm,rfl,ht,hm,hb⟩;have XA:=hdz (X7.out.turn hm hb);have TA:=hdz ht;clear ht hm hb X7;refine hK.out _ _ ?_ (fun hH2 => ?_)
     ·exact ⟨XA.out.f.c0,XA.out.s.c0⟩
     clear hK K hH;have hH:=hH2;clear hH2;try simp only [bkz]
     refine rd1 6 (fun K hK => ?_);go_simp;(with_reducible refine (push_hn XA.out.st.ta TA.out (by have:=Q.out;have:=HN.out;omega)).mono ?_);rintro e WB ⟨q6,l6,rfl,ht,hb⟩;have HL6:=hdz (show l6 ≤ ks.size by have h5:=ht.len;have h6:=XA.out.st.ta.len;have h7:=ks.twos_length;have h8:=congrArg List.length Q.out.2.1;rw [Kd.twos_step HIS.out] at h8;simp only [List.length_append,List.length_reverse,List.length_cons] at h8 h5;omega);have XB:=hdz (XA.out.stay hb);have T6:=hdz ht;clear ht hb XA TA;refine hK.out _ _ ?_ (fun hH2 => ?_)
     ·exact ⟨XB.out.f.c0,XB.out.s.c0⟩
     clear hK K hH;have hH:=hH2;clear hH2;try simp only [bkz]
     refine rd1 8 (fun K hK => ?_);go_simp;(with_reducible refine (drop_kn XB.out.st.ka XB.out.st.len (by have:=Q.out;have:=HN.out;omega)).mono ?_);rintro e WC ⟨p8,n8,rfl,hk,hn,hb⟩;have XC:=hdz (XB.out.stay hb);have T6b:=hdz (T6.out.stay hb);have K8:=hdz hk;have HN8:=hdz hn;clear hk hn hb XB T6;have T6:=T6b;clear T6b;refine hK.out _ _ ?_ (fun hH2 => ?_)
     ·exact ⟨XC.out.f.c0,XC.out.s.c0⟩
     clear hK K hH;have hH:=hH2;clear hH2;try simp only [bkz]
     refine rd1 9 (fun K hK => ?_);have XS:=hdz XC.out.st;have HS9:=hdz (anz (XC.out.f.set2 (b':=a + 1 + 1) (by have:=XC.out.nf;omega) (.pointer q6) (.int .i64 (l6:Int))) (XC.out.s.set2 (b':=a + 1 + 1) (by have:=XC.out.ns;omega) (.pointer q6) (.int .i64 (l6:Int))));have HB9:=hdz (anz XC.out.nf XC.out.ns);have y0:=XS.out.t.c0;have y1:=XS.out.t.c1;have y2:=XS.out.t.z0;have y3:=XS.out.t.z1;go_simp;clear y0 y1 y2 y3;refine hK.out _ _ ?_ (fun hH2 => ?_)
     ·exact ⟨HS9.out.1.c0,HS9.out.2.c0⟩
     clear hK K hH;have hH:=hH2;clear hH2;try simp only [bkz]
     refine rd1 10 (fun K hK => ?_);have B9:=XS.out.k.aside (g:=a + 1 + 1) (by omega) (.pointer q6) (.int .i64 (l6:Int));have y0:=B9.c0;have y1:=B9.c1;have y2:=B9.z0;have y3:=B9.z1;have HS10:=hdz (anz (HS9.out.1.set2 (b':=a) (by have:=HB9.out;omega) (.pointer p8) (.int .i64 (n8:Int))) (HS9.out.2.set2 (b':=a) (by have:=HB9.out;omega) (.pointer p8) (.int .i64 (n8:Int))));clear B9;go_simp;clear y0 y1 y2 y3;refine hK.out _ _ ?_ (fun hH2 => ?_)
     ·exact ⟨HS10.out.1.c0,HS10.out.2.c0⟩
     clear hK K hH;have hH:=hH2;clear hH2;try simp only [bkz]
     refine dn ?_;clear hH;go_wp2_with fail
     go_roundg (r.tail.tail.len)
     case measure => have h5:=Kd.tail_len HIS.out;have:=Q.out;omega
     case rel => exact ⟨r.tail.tail,meld r.head r.tail.head :: acc,p8,q6,n8,l6,k1 + meldN r.head r.tail.head,rfl,by have h5:=Q.out.2.1;rw [Kd.twos_step HIS.out] at h5;rw [List.reverse_cons,List.append_assoc];exact h5,by have h5:=Kd.twosN_step HIS.out;have:=Q.out;omega,by have h5:=Kd.size_step HIS.out;have:=Q.out.2.2.2.1;simp only [sizes,meld_size];omega,by have h5:=HL6.out;omega,by have h5:=Pst.next XS.out K8.out HN8.out T6.out;have e1:c + ((k1 + meldN r.head r.tail.head:Nat):Int) = c + (k1:Int) + (meldN r.head r.tail.head:Nat):=(by omega);have e2:m + ((k1 + meldN r.head r.tail.head:Nat):Int) = m + (k1:Int) + (meldN r.head r.tail.head:Nat):=(by omega);rw [e1,e2];exact h5⟩
   ·go_simp;(with_reducible refine (meld_any mo r.head r.tail.head (c + (k1:Int)) (m + (k1:Int)) pf ps _ (by have h5:=Kd.size_step HIS.out;have:=Q.out;have:=HN.out;omega) X7.out.st.tr.mt (by have:=HN.out;omega) (by have:=HN.out;have:=Q.out;omega) (by have:=HN.out;omega) (by have:=HN.out;have:=Q.out;omega) X7.out.lf X7.out.ls).mono ?_);rintro e WA ⟨pm,rfl,ht,hm,hb⟩;have XA:=hdz (X7.out.turn hm hb);have TA:=hdz ht;clear ht hm hb X7;refine hK.out _ _ ?_ (fun hH2 => ?_)
    ·exact ⟨XA.out.f.c0,XA.out.s.c0⟩
    clear hK K hH;have hH:=hH2;clear hH2;try simp only [bkz]
    refine rd2 0 7 (fun K hK => ?_) (fun K hK => ?_)
    ·have y0:=XA.out.st.t.c0;have y1:=XA.out.st.t.c1;go_simp;clear y0 y1;refine hK.out _ _ ?_ (fun hH2 => ?_)
     ·exact ⟨XA.out.f.c0,XA.out.s.c0⟩
     clear hK K hH;have hH:=hH2;clear hH2;try simp only [bkz]
     refine rd2 6 7 (fun K hK => ?_) (fun K hK => ?_)
     focus
      go_simp;(with_reducible refine (push_hn XA.out.st.ta TA.out (by have:=Q.out;have:=HN.out;omega)).mono ?_);rintro e WB ⟨q6,l6,rfl,ht,hb⟩;have HL6:=hdz (show l6 ≤ ks.size by have h5:=ht.len;have h6:=XA.out.st.ta.len;have h7:=ks.twos_length;have h8:=congrArg List.length Q.out.2.1;rw [Kd.twos_step HIS.out] at h8;simp only [List.length_append,List.length_reverse,List.length_cons] at h8 h5;omega);have XB:=hdz (XA.out.stay hb);have T6:=hdz ht;clear ht hb XA TA;refine hK.out _ _ ?_ (fun hH2 => ?_)
      ·exact ⟨XB.out.f.c0,XB.out.s.c0⟩
      clear hK K hH;have hH:=hH2;clear hH2;try simp only [bkz]
      refine rd1 7 (fun K hK => ?_);have y0:=XB.out.st.k.c0;have y1:=XB.out.st.k.c1;go_simp;clear y0 y1
     rotate_left
     focus
      have y0:=XA.out.st.k.c0;have y1:=XA.out.st.k.c1;go_simp;clear y0 y1;refine hK.out _ _ ?_ (fun hH2 => ?_)
      ·exact ⟨XA.out.f.c0,XA.out.s.c0⟩
      clear hK K hH;have hH:=hH2;clear hH2;try simp only [bkz]
      refine rd1 6 (fun K hK => ?_);go_simp;(with_reducible refine (push_hn XA.out.st.ta TA.out (by have:=Q.out;have:=HN.out;omega)).mono ?_);rintro e WB ⟨q6,l6,rfl,ht,hb⟩;have HL6:=hdz (show l6 ≤ ks.size by have h5:=ht.len;have h6:=XA.out.st.ta.len;have h7:=ks.twos_length;have h8:=congrArg List.length Q.out.2.1;rw [Kd.twos_step HIS.out] at h8;simp only [List.length_append,List.length_reverse,List.length_cons] at h8 h5;omega);have XB:=hdz (XA.out.stay hb);have T6:=hdz ht;clear ht hb XA TA
     rotate_left
     all_goals
      refine hK.out _ _ ?_ (fun hH2 => ?_)
      ·exact ⟨XB.out.f.c0,XB.out.s.c0⟩
      clear hK K hH;have hH:=hH2;clear hH2;try simp only [bkz]
      refine rd1 8 (fun K hK => ?_);go_simp;(with_reducible refine (drop_kn XB.out.st.ka XB.out.st.len (by have:=Q.out;have:=HN.out;omega)).mono ?_);rintro e WC ⟨p8,n8,rfl,hk,hn,hb⟩;have XC:=hdz (XB.out.stay hb);have T6b:=hdz (T6.out.stay hb);have K8:=hdz hk;have HN8:=hdz hn;clear hk hn hb XB T6;have T6:=T6b;clear T6b;refine hK.out _ _ ?_ (fun hH2 => ?_)
      ·exact ⟨XC.out.f.c0,XC.out.s.c0⟩
      clear hK K hH;have hH:=hH2;clear hH2;try simp only [bkz]
      refine rd1 9 (fun K hK => ?_);have XS:=hdz XC.out.st;have HS9:=hdz (anz (XC.out.f.set2 (b':=a + 1 + 1) (by have:=XC.out.nf;omega) (.pointer q6) (.int .i64 (l6:Int))) (XC.out.s.set2 (b':=a + 1 + 1) (by have:=XC.out.ns;omega) (.pointer q6) (.int .i64 (l6:Int))));have HB9:=hdz (anz XC.out.nf XC.out.ns);have y0:=XS.out.t.c0;have y1:=XS.out.t.c1;have y2:=XS.out.t.z0;have y3:=XS.out.t.z1;go_simp;clear y0 y1 y2 y3;refine hK.out _ _ ?_ (fun hH2 => ?_)
      ·exact ⟨HS9.out.1.c0,HS9.out.2.c0⟩
      clear hK K hH;have hH:=hH2;clear hH2;try simp only [bkz]
      refine rd1 10 (fun K hK => ?_);have B9:=XS.out.k.aside (g:=a + 1 + 1) (by omega) (.pointer q6) (.int .i64 (l6:Int));have y0:=B9.c0;have y1:=B9.c1;have y2:=B9.z0;have y3:=B9.z1;have HS10:=hdz (anz (HS9.out.1.set2 (b':=a) (by have:=HB9.out;omega) (.pointer p8) (.int .i64 (n8:Int))) (HS9.out.2.set2 (b':=a) (by have:=HB9.out;omega) (.pointer p8) (.int .i64 (n8:Int))));clear B9;go_simp;clear y0 y1 y2 y3;refine hK.out _ _ ?_ (fun hH2 => ?_)
      ·exact ⟨HS10.out.1.c0,HS10.out.2.c0⟩
      clear hK K hH;have hH:=hH2;clear hH2;try simp only [bkz]
      refine dn ?_;clear hH;go_wp2_with fail
      go_roundg (r.tail.tail.len)
      case measure => have h5:=Kd.tail_len HIS.out;have:=Q.out;omega
      case rel => exact ⟨r.tail.tail,meld r.head r.tail.head :: acc,p8,q6,n8,l6,k1 + meldN r.head r.tail.head,rfl,by have h5:=Q.out.2.1;rw [Kd.twos_step HIS.out] at h5;rw [List.reverse_cons,List.append_assoc];exact h5,by have h5:=Kd.twosN_step HIS.out;have:=Q.out;omega,by have h5:=Kd.size_step HIS.out;have:=Q.out.2.2.2.1;simp only [sizes,meld_size];omega,by have h5:=HL6.out;omega,by have h5:=Pst.next XS.out K8.out HN8.out T6.out;have e1:c + ((k1 + meldN r.head r.tail.head:Nat):Int) = c + (k1:Int) + (meldN r.head r.tail.head:Nat):=(by omega);have e2:m + ((k1 + meldN r.head r.tail.head:Nat):Int) = m + (k1:Int) + (meldN r.head r.tail.head:Nat):=(by omega);rw [e1,e2];exact h5⟩
    ·have y0:=XA.out.st.k.c0;have y1:=XA.out.st.k.c1;go_simp;clear y0 y1;refine hK.out _ _ ?_ (fun hH2 => ?_)
     ·exact ⟨XA.out.f.c0,XA.out.s.c0⟩
     clear hK K hH;have hH:=hH2;clear hH2;try simp only [bkz]
     refine rd1 0 (fun K hK => ?_);have y0:=XA.out.st.t.c0;have y1:=XA.out.st.t.c1;go_simp;clear y0 y1;refine hK.out _ _ ?_ (fun hH2 => ?_)
     ·exact ⟨XA.out.f.c0,XA.out.s.c0⟩
     clear hK K hH;have hH:=hH2;clear hH2;try simp only [bkz]
     refine rd1 6 (fun K hK => ?_);go_simp;(with_reducible refine (push_hn XA.out.st.ta TA.out (by have:=Q.out;have:=HN.out;omega)).mono ?_);rintro e WB ⟨q6,l6,rfl,ht,hb⟩;have HL6:=hdz (show l6 ≤ ks.size by have h5:=ht.len;have h6:=XA.out.st.ta.len;have h7:=ks.twos_length;have h8:=congrArg List.length Q.out.2.1;rw [Kd.twos_step HIS.out] at h8;simp only [List.length_append,List.length_reverse,List.length_cons] at h8 h5;omega);have XB:=hdz (XA.out.stay hb);have T6:=hdz ht;clear ht hb XA TA;refine hK.out _ _ ?_ (fun hH2 => ?_)
     ·exact ⟨XB.out.f.c0,XB.out.s.c0⟩
     clear hK K hH;have hH:=hH2;clear hH2;try simp only [bkz]
     refine rd1 8 (fun K hK => ?_);go_simp;(with_reducible refine (drop_kn XB.out.st.ka XB.out.st.len (by have:=Q.out;have:=HN.out;omega)).mono ?_);rintro e WC ⟨p8,n8,rfl,hk,hn,hb⟩;have XC:=hdz (XB.out.stay hb);have T6b:=hdz (T6.out.stay hb);have K8:=hdz hk;have HN8:=hdz hn;clear hk hn hb XB T6;have T6:=T6b;clear T6b;refine hK.out _ _ ?_ (fun hH2 => ?_)
     ·exact ⟨XC.out.f.c0,XC.out.s.c0⟩
     clear hK K hH;have hH:=hH2;clear hH2;try simp only [bkz]
     refine rd1 9 (fun K hK => ?_);have XS:=hdz XC.out.st;have HS9:=hdz (anz (XC.out.f.set2 (b':=a + 1 + 1) (by have:=XC.out.nf;omega) (.pointer q6) (.int .i64 (l6:Int))) (XC.out.s.set2 (b':=a + 1 + 1) (by have:=XC.out.ns;omega) (.pointer q6) (.int .i64 (l6:Int))));have HB9:=hdz (anz XC.out.nf XC.out.ns);have y0:=XS.out.t.c0;have y1:=XS.out.t.c1;have y2:=XS.out.t.z0;have y3:=XS.out.t.z1;go_simp;clear y0 y1 y2 y3;refine hK.out _ _ ?_ (fun hH2 => ?_)
     ·exact ⟨HS9.out.1.c0,HS9.out.2.c0⟩
     clear hK K hH;have hH:=hH2;clear hH2;try simp only [bkz]
     refine rd1 10 (fun K hK => ?_);have B9:=XS.out.k.aside (g:=a + 1 + 1) (by omega) (.pointer q6) (.int .i64 (l6:Int));have y0:=B9.c0;have y1:=B9.c1;have y2:=B9.z0;have y3:=B9.z1;have HS10:=hdz (anz (HS9.out.1.set2 (b':=a) (by have:=HB9.out;omega) (.pointer p8) (.int .i64 (n8:Int))) (HS9.out.2.set2 (b':=a) (by have:=HB9.out;omega) (.pointer p8) (.int .i64 (n8:Int))));clear B9;go_simp;clear y0 y1 y2 y3;refine hK.out _ _ ?_ (fun hH2 => ?_)
     ·exact ⟨HS10.out.1.c0,HS10.out.2.c0⟩
     clear hK K hH;have hH:=hH2;clear hH2;try simp only [bkz]
     refine dn ?_;clear hH;go_wp2_with fail
     go_roundg (r.tail.tail.len)
     case measure => have h5:=Kd.tail_len HIS.out;have:=Q.out;omega
     case rel => exact ⟨r.tail.tail,meld r.head r.tail.head :: acc,p8,q6,n8,l6,k1 + meldN r.head r.tail.head,rfl,by have h5:=Q.out.2.1;rw [Kd.twos_step HIS.out] at h5;rw [List.reverse_cons,List.append_assoc];exact h5,by have h5:=Kd.twosN_step HIS.out;have:=Q.out;omega,by have h5:=Kd.size_step HIS.out;have:=Q.out.2.2.2.1;simp only [sizes,meld_size];omega,by have h5:=HL6.out;omega,by have h5:=Pst.next XS.out K8.out HN8.out T6.out;have e1:c + ((k1 + meldN r.head r.tail.head:Nat):Int) = c + (k1:Int) + (meldN r.head r.tail.head:Nat):=(by omega);have e2:m + ((k1 + meldN r.head r.tail.head:Nat):Int) = m + (k1:Int) + (meldN r.head r.tail.head:Nat):=(by omega);rw [e1,e2];exact h5⟩
   ·have y0:=X7.out.st.k.c0;have y1:=X7.out.st.k.c1;go_simp;clear y0 y1;refine hK.out _ _ ?_ (fun hH2 => ?_)
    ·exact ⟨X7.out.f.c0,X7.out.s.c0⟩
    clear hK K hH;have hH:=hH2;clear hH2;try simp only [bkz]
    refine rd2 0 5 (fun K hK => ?_) (fun K hK => ?_)
    focus
     have y0:=X7.out.st.t.c0;have y1:=X7.out.st.t.c1;go_simp;clear y0 y1;refine hK.out _ _ ?_ (fun hH2 => ?_)
     ·exact ⟨X7.out.f.c0,X7.out.s.c0⟩
     clear hK K hH;have hH:=hH2;clear hH2;try simp only [bkz]
     refine rd1 5 (fun K hK => ?_);go_simp;(with_reducible refine (meld_any mo r.head r.tail.head (c + (k1:Int)) (m + (k1:Int)) pf ps _ (by have h5:=Kd.size_step HIS.out;have:=Q.out;have:=HN.out;omega) X7.out.st.tr.mt (by have:=HN.out;omega) (by have:=HN.out;have:=Q.out;omega) (by have:=HN.out;omega) (by have:=HN.out;have:=Q.out;omega) X7.out.lf X7.out.ls).mono ?_);rintro e WA ⟨pm,rfl,ht,hm,hb⟩;have XA:=hdz (X7.out.turn hm hb);have TA:=hdz ht;clear ht hm hb X7
    rotate_left
    focus
     go_simp;(with_reducible refine (meld_any mo r.head r.tail.head (c + (k1:Int)) (m + (k1:Int)) pf ps _ (by have h5:=Kd.size_step HIS.out;have:=Q.out;have:=HN.out;omega) X7.out.st.tr.mt (by have:=HN.out;omega) (by have:=HN.out;have:=Q.out;omega) (by have:=HN.out;omega) (by have:=HN.out;have:=Q.out;omega) X7.out.lf X7.out.ls).mono ?_);rintro e WA ⟨pm,rfl,ht,hm,hb⟩;have XA:=hdz (X7.out.turn hm hb);have TA:=hdz ht;clear ht hm hb X7;refine hK.out _ _ ?_ (fun hH2 => ?_)
     ·exact ⟨XA.out.f.c0,XA.out.s.c0⟩
     clear hK K hH;have hH:=hH2;clear hH2;try simp only [bkz]
     refine rd1 0 (fun K hK => ?_);have y0:=XA.out.st.t.c0;have y1:=XA.out.st.t.c1;go_simp;clear y0 y1
    rotate_left
    all_goals
     refine hK.out _ _ ?_ (fun hH2 => ?_)
     ·exact ⟨XA.out.f.c0,XA.out.s.c0⟩
     clear hK K hH;have hH:=hH2;clear hH2;try simp only [bkz]
     refine rd1 6 (fun K hK => ?_);go_simp;(with_reducible refine (push_hn XA.out.st.ta TA.out (by have:=Q.out;have:=HN.out;omega)).mono ?_);rintro e WB ⟨q6,l6,rfl,ht,hb⟩;have HL6:=hdz (show l6 ≤ ks.size by have h5:=ht.len;have h6:=XA.out.st.ta.len;have h7:=ks.twos_length;have h8:=congrArg List.length Q.out.2.1;rw [Kd.twos_step HIS.out] at h8;simp only [List.length_append,List.length_reverse,List.length_cons] at h8 h5;omega);have XB:=hdz (XA.out.stay hb);have T6:=hdz ht;clear ht hb XA TA;refine hK.out _ _ ?_ (fun hH2 => ?_)
     ·exact ⟨XB.out.f.c0,XB.out.s.c0⟩
     clear hK K hH;have hH:=hH2;clear hH2;try simp only [bkz]
     refine rd1 8 (fun K hK => ?_);go_simp;(with_reducible refine (drop_kn XB.out.st.ka XB.out.st.len (by have:=Q.out;have:=HN.out;omega)).mono ?_);rintro e WC ⟨p8,n8,rfl,hk,hn,hb⟩;have XC:=hdz (XB.out.stay hb);have T6b:=hdz (T6.out.stay hb);have K8:=hdz hk;have HN8:=hdz hn;clear hk hn hb XB T6;have T6:=T6b;clear T6b;refine hK.out _ _ ?_ (fun hH2 => ?_)
     ·exact ⟨XC.out.f.c0,XC.out.s.c0⟩
     clear hK K hH;have hH:=hH2;clear hH2;try simp only [bkz]
     refine rd1 9 (fun K hK => ?_);have XS:=hdz XC.out.st;have HS9:=hdz (anz (XC.out.f.set2 (b':=a + 1 + 1) (by have:=XC.out.nf;omega) (.pointer q6) (.int .i64 (l6:Int))) (XC.out.s.set2 (b':=a + 1 + 1) (by have:=XC.out.ns;omega) (.pointer q6) (.int .i64 (l6:Int))));have HB9:=hdz (anz XC.out.nf XC.out.ns);have y0:=XS.out.t.c0;have y1:=XS.out.t.c1;have y2:=XS.out.t.z0;have y3:=XS.out.t.z1;go_simp;clear y0 y1 y2 y3;refine hK.out _ _ ?_ (fun hH2 => ?_)
     ·exact ⟨HS9.out.1.c0,HS9.out.2.c0⟩
     clear hK K hH;have hH:=hH2;clear hH2;try simp only [bkz]
     refine rd1 10 (fun K hK => ?_);have B9:=XS.out.k.aside (g:=a + 1 + 1) (by omega) (.pointer q6) (.int .i64 (l6:Int));have y0:=B9.c0;have y1:=B9.c1;have y2:=B9.z0;have y3:=B9.z1;have HS10:=hdz (anz (HS9.out.1.set2 (b':=a) (by have:=HB9.out;omega) (.pointer p8) (.int .i64 (n8:Int))) (HS9.out.2.set2 (b':=a) (by have:=HB9.out;omega) (.pointer p8) (.int .i64 (n8:Int))));clear B9;go_simp;clear y0 y1 y2 y3;refine hK.out _ _ ?_ (fun hH2 => ?_)
     ·exact ⟨HS10.out.1.c0,HS10.out.2.c0⟩
     clear hK K hH;have hH:=hH2;clear hH2;try simp only [bkz]
     refine dn ?_;clear hH;go_wp2_with fail
     go_roundg (r.tail.tail.len)
     case measure => have h5:=Kd.tail_len HIS.out;have:=Q.out;omega
     case rel => exact ⟨r.tail.tail,meld r.head r.tail.head :: acc,p8,q6,n8,l6,k1 + meldN r.head r.tail.head,rfl,by have h5:=Q.out.2.1;rw [Kd.twos_step HIS.out] at h5;rw [List.reverse_cons,List.append_assoc];exact h5,by have h5:=Kd.twosN_step HIS.out;have:=Q.out;omega,by have h5:=Kd.size_step HIS.out;have:=Q.out.2.2.2.1;simp only [sizes,meld_size];omega,by have h5:=HL6.out;omega,by have h5:=Pst.next XS.out K8.out HN8.out T6.out;have e1:c + ((k1 + meldN r.head r.tail.head:Nat):Int) = c + (k1:Int) + (meldN r.head r.tail.head:Nat):=(by omega);have e2:m + ((k1 + meldN r.head r.tail.head:Nat):Int) = m + (k1:Int) + (meldN r.head r.tail.head:Nat):=(by omega);rw [e1,e2];exact h5⟩
  ·have hz:n = 0:=by omega
   have hr0:r = .nil:=Kd.len_zero (by have:=Q.out;omega);subst hr0;have hacc:acc.reverse = ks.twos:=by have h5:=Q.out.2.1;simpa [Kd.twos] using h5
   have hkk:k1 = ks.twosN:=by have h5:=Q.out.2.2.1;simpa [Kd.twosN] using h5
   have Q2:=hdz (show acc.reverse = ks.twos ∧ k1 = ks.twosN ∧ sizes acc = ks.size ∧ acc.length ≤ ks.size ∧ k1 ≤ ks.size from ⟨hacc,hkk,by rw [← sizes_reverse,hacc,ks.twos_sizes],by rw [← List.length_reverse,hacc];exact ks.twos_length,by rw [hkk];exact ks.twosN_le⟩);clear hacc hkk hpos Q;have q1:¬ (0:Int) < (n:Int):=by omega
   have q2:decide ((0:Int) < (n:Int)) = false:=by simp;omega
   have q3:decide (0 < n) = false:=by simp;omega
   clear hz;go_wp2_with fail
   ((with_reducible refine (Lt.len_l).mono ?_);rintro e w2 ⟨rfl,hb2⟩);have P2:=hdz (P0.out.stay hb2);clear hb2 P0 k0 k1';have P3:=hdz (P2.out.stay (bqA (.cells #[.pointer none] 113)));have V3:=hdz (HVar.at (W:=w2) (p:=none) rfl);have t0:=P3.out.t.c0;have t1:=P3.out.t.c1;go_wp2_with fail
   generalize w2.alloc (.cells #[.pointer none] 113) = w3 at *;obtain ⟨ba,hba⟩:=exq (w2.heap.size);rw [← hba] at V3 ⊢;have HBA:=hdz (show a + 1 < ba by have:=P2.out.t.lt;omega);clear hba P2 t0 t1;((with_reducible refine (all_h P3.out.ta).mono ?_);rintro e w4 ⟨A,cap,pp,rfl,hmi, -,hhs,hcap,hb4⟩);have hrow:=rowAt_mine hmi;have hlen:l = acc.length:=P3.out.ta.len;have PL:=hdz (show Pl mo w a ba w3.heap.size acc pp A l 0 none (c + (k1:Int)) (m + (k1:Int)) w4 from ⟨V3.out.stay hb4,P3.out.rs.stay hb4,hrow,hhs,by simpa [foldH] using LAt.none _,by simpa [foldHN] using P3.out.tr.stay hb4,P3.out.own,HBA.out,lt_of_heap V3.out⟩);have HL:=hdz hlen;clear hmi hhs hcap hb4 hrow hlen V3 P3;generalize w3.heap.size = base at *;go_wp2_with fail
   go_loopg [41] l (fun k i wr => ∃ (j:Nat) (pa:Option Addr),i = .int .i64 (j:Int) ∧ j + k = l ∧ Pl mo w a ba base acc pp A l j pa (c + (k1:Int)) (m + (k1:Int)) wr)
   case atStart => exact ⟨0,none,rfl,by omega,PL.out⟩
   case round =>
    clear PL;obtain ⟨j,pa,rfl,hj,P⟩:=hrel;have P0:=hdz P;clear P;by_cases hlt:j < l
    ·obtain ⟨g,x,cur,rfl,hgb,hgg,hpx,hcx⟩:=P0.out.row.2 j hlt;have hja:j < acc.length:=by rw [← HL.out];exact hlt
     obtain ⟨x',hx',hat⟩:=P0.out.hs.at (List.getElem?_eq_getElem hja);have hxx:x' = x:=by rw [hpx] at hx';cases hx';rfl
     subst hxx;have hcell:wr.cell? ⟨g,j,none⟩ = some (.pointer x'):=by simp [World.cell?,hgg,hcx]
     have hmem:acc[j] ∈ acc:=List.getElem_mem hja
     have Z:=hdz (show LAt wr acc[j] x' ∧ acc[j].size + sizes (acc.take j) ≤ sizes acc ∧ j + gk = l ∧ foldHN (acc.take j).reverse ≤ acc.length from ⟨hat,by
      have h5:=sizes_take acc (j + 1);rw [List.take_succ_eq_append_getElem hja,sizes_append] at h5;simp only [sizes] at h5;omega,hj,by have h5:=foldHN_le (acc.take j).reverse;rw [List.length_reverse,List.length_take] at h5;omega⟩)
     have HJ:=hdz hja;have q1:(j:Int) < (l:Int):=by omega
     have q2:decide ((j:Int) < (l:Int)) = true:=by simpa using hlt
     have q3:decide (j < l) = true:=by simpa using hlt
     have q4:(0:Int) ≤ (j:Int):=by omega
     have P1:=hdz (P0.out.bt (bqA (.cells #[.pointer x'] 113)));have v1:=P1.out.v.c0;have hnew:(wr.alloc (.cells #[.pointer x'] 113)).cell? ⟨wr.heap.size,0,none⟩ = some (.pointer x'):=(HVar.at (W:=wr) (p:=x') rfl).c0;have LA:=hdz (Z.out.1.stay (bqA (.cells #[.pointer x'] 113)));clear hgb hgg hpx hcx hx' hat hmem hj P0;go_wp2_with fail
     generalize wr.alloc (.cells #[.pointer x'] 113) = w5 at *;((with_reducible refine (meld_any mo (acc[j]'HJ.out) (foldH (acc.take j).reverse) _ _ x' pa _ (by rw [foldH_size,sizes_reverse];have:=Z.out;have:=Q2.out;have:=HN.out;omega) P1.out.tr.mt (by have:=HN.out;omega) (by have:=HN.out;have:=Q2.out;have:=Z.out;omega) (by have:=HN.out;omega) (by have:=HN.out;have:=Q2.out;have:=Z.out;omega) LA.out P1.out.at_).mono ?_);rintro e w6 ⟨pm,rfl,ht,hm,hb⟩);have tr6:=P1.out.tr.turn hm hb node_ne;have v6:=P1.out.v.bt hb P1.out.tr.mt;have z6:=v6.z0;have y6:=v6.c0;have ef:foldHN (acc.take (j + 1)).reverse = foldHN (acc.take j).reverse + meldN (acc[j]'HJ.out) (foldH (acc.take j).reverse):=by rw [fold_step acc j HJ.out];rfl
     have eh:foldH (acc.take (j + 1)).reverse = meld (acc[j]'HJ.out) (foldH (acc.take j).reverse):=by rw [fold_step acc j HJ.out];rfl
     have PN:=hdz (show Pl mo w a ba base acc pp (some ⟨g,0,none⟩) l (j + 1) pm (c + (k1:Int)) (m + (k1:Int)) (w6.setCell ⟨ba,0,none⟩ (.pointer pm)) from
      ⟨v6.put pm,(P1.out.r.bt hb P1.out.tr.mt).set (by have:=P1.out.ga;omega) 0 _,(P1.out.row.bt hb P1.out.tr.mt).set P1.out.gb _,(P1.out.hs.bt hb P1.out.tr.mt).kp (Kpt.set v6 heapT_ne 0 _),by rw [eh];exact ht.kp (Kpt.set v6 heapT_ne 0 _),
       by rw [ef];have h5:=tr6.put v6 heapT_ne (by decide) (by have:=P1.out.own;have:=P1.out.ga;omega) 0 (.pointer pm);rw [show c + (k1:Int) + ((foldHN (acc.take j).reverse + meldN (acc[j]'HJ.out) (foldH (acc.take j).reverse):Nat):Int) = c + (k1:Int) + (foldHN (acc.take j).reverse:Nat) + (meldN (acc[j]'HJ.out) (foldH (acc.take j).reverse):Nat) by omega,show m + (k1:Int) + ((foldHN (acc.take j).reverse + meldN (acc[j]'HJ.out) (foldH (acc.take j).reverse):Nat):Int) = m + (k1:Int) + (foldHN (acc.take j).reverse:Nat) + (meldN (acc[j]'HJ.out) (foldH (acc.take j).reverse):Nat) by omega];exact h5,
       P1.out.own,P1.out.ga,P1.out.gb⟩)
     clear ht hm hb tr6 v6 ef eh v1 hnew P1 LA;have w1':IntKind.i64.wrap ((j:Int) + 1) = (j:Int) + 1:=by rw [IntKind.wrap_i64];have:=HL.out;have:=Q2.out;have:=HN.out;have:=Z.out;omega
     go_wp2_with fail
     go_roundg (l - 1 - j)
     case measure => have:=Z.out;omega
     case rel => exact ⟨j + 1,pm,by first | rfl | (congr 1;unfold wrap64;have:=HL.out;have:=Q2.out;have:=HN.out;have:=Z.out;omega),by have:=Z.out;omega,PN.out⟩
    ·have hjl:j = l:=by omega
     subst hjl;have q1:¬ (j:Int) < (j:Int):=by omega
     have v0:=P0.out.v.c0;have r0:=P0.out.r.c0;have z0:=P0.out.r.z0;clear hj hlt;go_wp2_with fail
     have h4:=HL.out;have h5:=P0.out.at_;have h6:=P0.out.tr;rw [h4,List.take_length,Q2.out.1] at h5 h6;rw [← Kd.pair_fold] at h5;have hk:=h6.put P0.out.r heapT_ne (by decide) (by have:=P0.out.own;omega) 0 (.pointer pa);refine bodyPost_ret (v:=hp pa) (by simp [results,Tryz.results366,go_sem,r0]) rfl ⟨_,rfl,h5.kp (Kpt.set P0.out.r heapT_ne 0 _),?_,hk.bt⟩;have e1:c + ((ks.pairN:Nat):Int) = c + (k1:Int) + (foldHN ks.twos:Nat):=by rw [ks.pairN_fold,Q2.out.2.1];omega
     have e2:m + ((ks.pairN:Nat):Int) = m + (k1:Int) + (foldHN ks.twos:Nat):=by rw [ks.pairN_fold,Q2.out.2.1];omega
     rw [e1,e2];exact hk.mt
end Go.Proofs.YtmeodbjlmjpnbaaGreat.Pd
namespace Go.Proofs.YtmeodbjlmjpnbaaGreat.Pd
open Go.Sort Go.RowKit
def Popped (mo:Option Nat) (c m:Int) (t:Lh) (is:Bool) (w:World) (e:Ending) (w':World):Prop:=∃ p,e = .returned (.tuple #[hp p,.bool is]) ∧ LAt w' t p ∧ MAt w' mo c m ∧ Bt mo w w'
theorem pop_any (mo:Option Nat) (c m:Int) (h:Lh) (p:Option Addr) (w:World) (hs:h.size < 134217728) (hm:MAt w mo c m) (h0:0 ≤ c) (h1:c < 576460752303423488) (h2:0 ≤ m) (h3:m < 576460752303423487)
  (hh:LAt w h p):Calls Tryz.prog 364 #[hp p,mAddr mo] w (Popped mo (c + h.popN) (m + h.popN) h.pop h.some w):=by
 cases h with
 | nil =>
  obtain rfl:=hh;have hb1:Below w.heap.size w ((w.alloc (.cells #[.pointer none] 113)).alloc (.cells #[.pointer none] 113)):=(bqA _).alloc (by simp) _;have KK:=hdz (hm.stay hb1);have HB:=hdz (Bt.ofBelow (mo:=mo) hb1);clear hm hb1 hs h0 h1 h2 h3;go_enter Tryz.func364,Tryz.ntmps364
  go_wp2_with fail
  exact bodyPost_ret (v := .tuple #[hp none,.bool false]) (by simp [results,Tryz.results364,go_sem]) rfl ⟨_,rfl,rfl,by simpa [Lh.popN] using KK.out,HB.out⟩
 | node x ks =>
  obtain ⟨b,kp,rfl,hbh,hk⟩:=hh;have K1:Trk NodeT mo w c m ((w.alloc (.cells #[.pointer (some ⟨b,0,none⟩)] 113)).alloc (.cells #[.pointer none] 113)):=((Trk.refl hm).alloc _).alloc _;have e2:HVar ((w.alloc (.cells #[.pointer (some ⟨b,0,none⟩)] 113)).alloc (.cells #[.pointer none] 113)) (w.heap.size + 1) none:=HVar.at (by simp);have e1:HVar ((w.alloc (.cells #[.pointer (some ⟨b,0,none⟩)] 113)).alloc (.cells #[.pointer none] 113)) w.heap.size (some ⟨b,0,none⟩):=HVar.alloc (HVar.at rfl) _;obtain ⟨n,hn⟩:=exq (ks.len);rw [← hn] at hbh;have HL:=hdz (anz hbh (anz hk hn));have HN:=hdz (show ks.size < 134217728 ∧ 0 ≤ c ∧ c < 576460752303423488 ∧ 0 ≤ m ∧ m < 576460752303423487 from ⟨by simp only [Lh.size] at hs;omega,h0,h1,h2,h3⟩);have HE:=hdz (anz e1 e2);have KK:=hdz K1;clear hbh hk hn hs h0 h1 h2 h3 K1 hm e1 e2;go_enter Tryz.func364,Tryz.ntmps364
  have c2:=(five_kp HL.out.1 KK.out.kp).c2;have c3:=(five_kp HL.out.1 KK.out.kp).c3;go_wp2_with fail
  generalize (w.alloc (.cells #[.pointer (some ⟨b,0,none⟩)] 113)).alloc (.cells #[.pointer none] 113) = w1 at *;obtain ⟨a,ha⟩:=exq (w.heap.size);rw [← ha] at HE ⊢;have HA:=hdz ha;clear ha;((with_reducible refine (paired_any mo c m ks kp n _ KK.out.mt HN.out.2.1 HN.out.2.2.1 HN.out.2.2.2.1 (by have:=HN.out;omega) (HL.out.2.1.kp KK.out.kp) HL.out.2.2 HN.out.1).mono ?_);rintro e w6 ⟨p6,rfl,ht6,hm6,hb6⟩);have R6:=hdz (HE.out.2.bt hb6 KK.out.mt);have K6:=hdz (KK.out.turn hm6 hb6 node_ne);have T6:=hdz ht6;have r6:=R6.out.c0;have z6:=R6.out.z0;clear ht6 hm6 hb6 c2 c3;go_wp2_with fail
  have hk:=(K6.out.put R6.out heapT_ne (by decide) (by rw [← HA.out];omega) 0 (.pointer p6));exact bodyPost_ret (v := .tuple #[hp p6,.bool true]) (by simp [results,Tryz.results364,go_sem,r6]) rfl ⟨_,rfl,T6.out.kp (Kpt.set R6.out heapT_ne 0 _),hk.mt,hk.bt⟩
end Go.Proofs.YtmeodbjlmjpnbaaGreat.Pd
namespace Go.Proofs.YtmeodbjlmjpnbaaGreat.Pd
open Go.Sort Go.RowKit
theorem cell_old {w:World} {q:Addr} {v:Value} (h:w.cell? q = some v) (o:Obj):(w.alloc o).cell? q = some v:=(((Below.refl w.heap.size w).alloc (Nat.le_refl _) o).cell (block_lt_of_cell h)).trans h
theorem putN_take (xs:List (Int × Int)) (k:Nat) (h:k < xs.length):putN .nil (xs.take (k + 1)) = putN .nil (xs.take k) + meldN (.one xs[k]) (ofL (xs.take k)):=by
 rw [List.take_succ_eq_append_getElem h,putN_snoc];rfl
theorem ofL_take (xs:List (Int × Int)) (k:Nat) (h:k < xs.length):ofL (xs.take (k + 1)) = (ofL (xs.take k)).insert xs[k]:=by
 rw [List.take_succ_eq_append_getElem h,ofL_snoc]
theorem putN_small (xs:List (Int × Int)) (h:xs.length < 16777216):putN .nil xs < 562949953421312:=by
 have h1:=putN_le xs .nil;rw [show Lh.nil.size = 0 from rfl] at h1;have h2:xs.length * (0 + xs.length + 1) ≤ 16777216 * 16777216:=Nat.mul_le_mul (by omega) (by omega);omega
theorem of_any (mo:Option Nat) (c m:Int) (A:Option Addr) (xs:List (Int × Int)) (cap:Nat) (w:World) (hm:MAt w mo c m) (h0:0 ≤ c) (h1:c < 288230376151711744) (h2:0 ≤ m) (h3:m < 288230376151711744) (hr:Row w A xs) (hn:xs.length < 16777216)
  (hne:∀ b,mo = some b → ∀ q,A = some q → q.block ≠ b) :
  Calls Tryz.prog 45 #[mAddr mo,.slice A xs.length cap] w (Gave mo (c + putN .nil xs) (m + (xs.length:Nat) + putN .nil xs) (ofL xs) w):=by
 have K1:Trk NodeT mo w c m ((w.alloc (.cells #[.pointer none] 113)).alloc (.cells #[.pointer none] 113)):=((Trk.refl hm).alloc _).alloc _
 have e1:((w.alloc (.cells #[.pointer none] 113)).alloc (.cells #[.pointer none] 113)).heap[w.heap.size]? = some (.cells #[.pointer none] 113 (0,0)):=by
  rw [alloc_old _ (by simp only [World.size_alloc];omega)];exact new_at rfl
 have e2:((w.alloc (.cells #[.pointer none] 113)).alloc (.cells #[.pointer none] 113)).heap[w.heap.size + 1]? = some (.cells #[.pointer none] 113 (0,0)):=new_at (by simp);have HR:=hdz (anz hr hne);have HN:=hdz (anz h0 (anz h1 (anz h2 h3)));have HE:=hdz (anz e1 e2);have KK:=hdz K1;obtain ⟨n,hnn⟩:=exq (xs.length);rw [← hnn] at hn ⊢;have HX:=hdz hnn;clear hr hne h0 h1 h2 h3 K1 hm e1 e2 hnn;go_enter Tryz.func45,Tryz.ntmps45
 go_wp2_with fail
 generalize (w.alloc (.cells #[.pointer none] 113)).alloc (.cells #[.pointer none] 113) = w1 at *;obtain ⟨a,ha⟩:=exq (w.heap.size);rw [← ha] at HE ⊢;have HA:=hdz ha;clear ha;go_loopg [10] n (fun k i wr => ∃ (j:Nat) (p:Option Addr),i = .int .i64 (j:Int) ∧ j + k = n ∧ wr.heap[a]? = some (.cells #[.pointer none] 113 (0,0)) ∧ wr.heap[a + 1]? = some (.cells #[.pointer p] 113 (0,0)) ∧ LAt wr (ofL (xs.take j)) p ∧ Trk NodeT mo w (c + putN .nil (xs.take j)) (m + (j:Nat) + putN .nil (xs.take j)) wr)
 case atStart => exact ⟨0,none,rfl,by omega,HE.out.1,HE.out.2,rfl,by simpa [putN] using KK.out⟩
 case round =>
  obtain ⟨j,p,rfl,hj,hra,hrb,ht,hk⟩:=hrel;by_cases hlt:j < n
  ·have hjx:j < xs.length:=by rw [← HX.out];exact hlt
   obtain ⟨b,o,rfl,hc⟩:=HR.out.1 (by omega);have hx:=row_at hc j hjx;have hne:=fun bb (eb:mo = some bb) => HR.out.2 bb eb _ rfl;have x0:=hk.bt.cell hx.1 hne;have x1:=hk.bt.cell hx.2 hne;have hp:=putN_small (xs.take j) (by rw [List.length_take];omega);have hsz:(ofL (xs.take j)).size = j:=by rw [ofL_size,List.length_take];omega
   have eP:=putN_take xs j hjx;have eO:=ofL_take xs j hjx;generalize xs[j] = x at *;obtain ⟨y1,y2⟩:=x;have q1:(j:Int) < (n:Int):=by omega
   have q2:(0:Int) ≤ (j:Int):=by omega
   have h1c:wr.cell? ⟨a + 1,0,none⟩ = some (.pointer p):=by simp [World.cell?,hrb]
   have h2c:(wr.alloc (.cells #[.int .i64 y1,.int .i64 y2] 29)).cell? ⟨a + 1,0,none⟩ = some (.pointer p):=cell_old h1c _;have X:=hdz (anz hra (anz hrb (anz ht (anz hk (anz eP (anz eO (anz hp (anz hsz hj))))))));clear hra hrb ht hk eP eO hp hsz hj hc hx hne hjx;go_wp2_with fail
   clear h1c h2c x0 x1;((with_reducible refine (insert_any mo _ _ (ofL (xs.take j)) (y1,y2) p _ (by rw [X.out.2.2.2.2.2.2.2.1];omega) (X.out.2.2.2.1.alloc _).mt (by have:=HN.out;omega) (by have:=HN.out;have:=X.out.2.2.2.2.2.2.1;omega) (by have:=HN.out;omega) (by have:=HN.out;have:=X.out.2.2.2.2.2.2.1;omega) (X.out.2.2.1.stay (bqA _))).mono ?_);rintro e w2 ⟨p2,rfl,ht2,hm2,hb2⟩);obtain ⟨hra,hrb,ht,hk,eP,eO,hp,hsz,hj⟩:=X.out;have hk2:=(hk.alloc (.cells #[.int .i64 y1,.int .i64 y2] 29)).turn hm2 hb2 node_ne;have ra2:=hb2.row (hk.alloc _).mt ((alloc_old (.cells #[.int .i64 y1,.int .i64 y2] 29) (lt_of_heap hra)).trans hra) (by decide);have rb2:=hb2.row (hk.alloc _).mt ((alloc_old (.cells #[.int .i64 y1,.int .i64 y2] 29) (lt_of_heap hrb)).trans hrb) (by decide);have e1:c + ((putN .nil (xs.take (j + 1)):Nat):Int) = c + (putN .nil (xs.take j):Nat) + (meldN (.one (y1,y2)) (ofL (xs.take j)):Nat):=by rw [eP];omega
   have e2:m + ((j + 1:Nat):Int) + (putN .nil (xs.take (j + 1)):Nat) = m + (j:Nat) + (putN .nil (xs.take j):Nat) + 1 + (meldN (.one (y1,y2)) (ofL (xs.take j)):Nat):=by rw [eP];omega
   rw [← e1,← e2] at hk2;rw [← eO] at ht2;have z2:w2.frozen? ⟨a + 1,0,none⟩ = false:=by simp [World.frozen?,rb2]
   have r2:w2.cell? ⟨a + 1,0,none⟩ = some (.pointer p):=by simp [World.cell?,rb2]
   have Y:=hdz (anz (show (w2.setCell ⟨a + 1,0,none⟩ (.pointer p2)).heap[a]? = _ from (heap_other _ _ (by omega)).trans ra2) (anz (show (w2.setCell ⟨a + 1,0,none⟩ (.pointer p2)).heap[a + 1]? = some (.cells #[.pointer p2] 113 (0,0)) from heap_put (j:=0) rb2 (.pointer p2)) (anz (ht2.kp (Kpt.set rb2 heapT_ne 0 (.pointer p2))) (hk2.put rb2 heapT_ne (by decide) (by rw [← HA.out];omega) 0 (.pointer p2)))));clear hra hrb ht hk eP eO hp hsz hk2 ra2 rb2 e1 e2 ht2 hm2 hb2 X;go_wp2_with fail
   go_roundg (n - 1 - j)
   case measure => omega
   case rel => exact ⟨j + 1,p2,by congr 1,by omega,Y.out.1,Y.out.2.1,Y.out.2.2.1,Y.out.2.2.2⟩
  ·have hjn:j = n:=by omega
   subst hjn;rw [HX.out,List.take_length] at ht hk;rw [← HX.out] at hk;have h1c:wr.cell? ⟨a + 1,0,none⟩ = some (.pointer p):=by simp [World.cell?,hrb]
   have r6:wr.cell? ⟨a,0,none⟩ = some (.pointer none):=by simp [World.cell?,hra]
   have z6:wr.frozen? ⟨a,0,none⟩ = false:=by simp [World.frozen?,hra]
   have hk2:=hk.put hra heapT_ne (by decide) (by rw [← HA.out];omega) 0 (.pointer p);have X:=hdz (anz (ht.kp (Kpt.set hra heapT_ne 0 (.pointer p))) hk2);clear hra hrb ht hk hk2 hlt hj;go_wp2_with fail
   exact bodyPost_ret (v:=hp p) (by simp [results,Tryz.results45,go_sem,r6]) rfl ⟨_,rfl,X.out.1,X.out.2.mt,X.out.2.bt⟩
end Go.Proofs.YtmeodbjlmjpnbaaGreat.Pd
namespace Go.Proofs.YtmeodbjlmjpnbaaGreat.Pd
open Go.Sort Go.RowKit
theorem min_srt {h:Lh} (hg:h.good):h.min = (hd (srt h.all),decide (0 < (srt h.all).length)):=by
 cases h with
 | nil => rw [show (Lh.nil).all = [] from rfl,srt_nil];rfl
 | node x ks => rw [ok_srt (h := .node x ks) hg.ok rfl];rfl
theorem some_srt {h:Lh} (hg:h.good):h.some = decide (0 < (srt h.all).length):=(show h.some = h.min.2 by exact (min_some h).symm).trans (congrArg Prod.snd (min_srt hg))
theorem size_srt (h:Lh):(srt h.all).length = h.size:=by rw [srt_length,Lh.all_length]
theorem insK (h:Lh) (x:Int × Int) (q:Option Addr) (w:World) (hs:h.size < 16777216) (hh:LAt w h q) :
  Calls Tryz.prog 273 #[.agg #[.pointer q],.pointer none,el x] w fun e w' => ∃ q':Option Addr,e = .returned (.iface 181 (.agg #[.pointer q'])) ∧ LAt w' (h.insert x) q' ∧ Below w.heap.size w w':=by
 obtain ⟨x1,x2⟩:=x;have hm:∀ (k:Nat) (w:World),(method (k + 1) 113 (.agg #[.pointer q]) "Insert").run Tryz.prog w = .ok (92,.agg #[.pointer q]) w:=fun _ _ => by kernel_rfl
 have hb1:Below w.heap.size w ((w.alloc (.cells #[.pointer q] 181)).alloc (.cells #[.int .i64 x1,.int .i64 x2] 29)):=(bqA _).alloc (by simp) _;have H:=hdz (anz (hh.stay hb1) hb1);have HS:=hdz hs;clear hh hb1 hs;go_enter Tryz.func273,Tryz.ntmps273
 go_wp2_with fail
 refine (insert_any none 0 0 h (x1,x2) q _ (by have:=HS.out;omega) trivial (by decide) (by decide) (by decide) (by decide) H.out.1).mono ?_;rintro e w1 ⟨q',rfl,ht, -,hb⟩;have Y:=hdz (anz ht (H.out.2.trans (hb.toBelow.mono H.out.2.size)));clear ht hb;go_wp2_with fail
 refine bodyPost_ret (v := .iface 181 (.agg #[.pointer q'])) (by simp [results,Tryz.results273,go_sem]) rfl ⟨q',rfl,Y.out.1,Y.out.2⟩
theorem meldK (a b:Lh) (q:Option Addr) (p:Option Addr) (w:World) (hs:a.size + b.size < 16777216) (ha:LAt w a q) (hb:LAt w b p) :
  Calls Tryz.prog 274 #[.agg #[.pointer q],.pointer none,.iface 181 (.agg #[.pointer p])] w fun e w' => ∃ q':Option Addr,e = .returned (.tuple #[.iface 181 (.agg #[.pointer q']),.bool true]) ∧ LAt w' (meld a b) q' ∧ Below w.heap.size w w':=by
 have hm:∀ (k:Nat) (w:World),(method (k + 1) 113 (.agg #[.pointer q]) "Meld").run Tryz.prog w = .ok (119,.agg #[.pointer q]) w:=fun _ _ => by kernel_rfl
 have ht:∀ (w:World),(Instr.typeAssert (.iface 181 (.agg #[.pointer p])) 25 181 true).run Tryz.prog w = .ok (.tuple #[.agg #[.pointer p],.bool true]) w:=fun _ => by kernel_rfl
 have hb1:Below w.heap.size w ((w.alloc (.cells #[.pointer q] 181)).alloc (.cells #[.pointer p] 181)):=(bqA _).alloc (by simp) _;have H:=hdz (anz (ha.stay hb1) (anz (hb.stay hb1) hb1));have HS:=hdz hs;clear ha hb hb1 hs;go_enter Tryz.func274,Tryz.ntmps274
 go_wp2_with fail
 refine (meld_any none a b 0 0 q p _ (by have:=HS.out;omega) trivial (by decide) (by decide) (by decide) (by decide) H.out.1 H.out.2.1).mono ?_;rintro e w1 ⟨q',rfl,ht, -,hb⟩;have Y:=hdz (anz ht (H.out.2.2.trans (hb.toBelow.mono H.out.2.2.size)));clear ht hb;go_wp2_with fail
 refine bodyPost_ret (v := .tuple #[.iface 181 (.agg #[.pointer q']),.bool true]) (by simp [results,Tryz.results274,go_sem]) rfl ⟨q',rfl,Y.out.1,Y.out.2⟩
theorem meldNoK (q:Option Addr) (w:World):Calls Tryz.prog 274 #[.agg #[.pointer q],.pointer none,.nilIface] w fun e w' => e = .returned (.tuple #[.nilIface,.bool false]) ∧ Below w.heap.size w w':=by
 have hb1:Below w.heap.size w ((w.alloc (.cells #[.pointer q] 181)).alloc (.cells #[.pointer none] 181)):=(bqA _).alloc (by simp) _;have ht:∀ (w:World),(Instr.typeAssert .nilIface 25 181 true).run Tryz.prog w = .ok (.tuple #[.agg #[.pointer none],.bool false]) w:=fun _ => by kernel_rfl
 go_enter Tryz.func274,Tryz.ntmps274
 go_wp2_with fail
 refine bodyPost_ret (v := .tuple #[.nilIface,.bool false]) (by simp [results,Tryz.results274,go_sem]) rfl ⟨rfl,hb1⟩
theorem minK (h:Lh) (q:Option Addr) (w:World) (hg:h.good) (hh:LAt w h q) :
  Calls Tryz.prog 275 #[.agg #[.pointer q],.pointer none] w fun e w' => e = .returned (.tuple #[el (hd (srt h.all)),.bool (decide (0 < (srt h.all).length))]) ∧ Below w.heap.size w w':=by
 have hm:∀ (k:Nat) (w:World),(method (k + 1) 113 (.agg #[.pointer q]) "Min").run Tryz.prog w = .ok (363,.agg #[.pointer q]) w:=fun _ _ => by kernel_rfl
 have hb1:Below w.heap.size w ((w.alloc (.cells #[.pointer q] 181)).alloc (.cells #[.int .i64 0,.int .i64 0] 29)):=(bqA _).alloc (by simp) _
 have hv:Box2 ((w.alloc (.cells #[.pointer q] 181)).alloc (.cells #[.int .i64 0,.int .i64 0] 29)) (w.heap.size + 1) 29 (.int .i64 0) (.int .i64 0):=by
  have:=Box2.new (w.alloc (.cells #[.pointer q] 181)) 29 (.int .i64 0) (.int .i64 0);simpa only [World.size_alloc] using this
 have H:=hdz (anz (hh.stay hb1) (anz hb1 hv));obtain ⟨x,hx⟩:=exq (h.min);obtain ⟨⟨x1,x2⟩,z⟩:=x;have hx2:=hx.trans (min_srt hg);rw [show hd (srt h.all) = (x1,x2) from (congrArg Prod.fst hx2).symm,show decide (0 < (srt h.all).length) = z from (congrArg Prod.snd hx2).symm];have HM:minV h = .tuple #[.agg #[.int .i64 x1,.int .i64 x2],.bool z]:=by unfold minV;rw [← hx]
 have HN:=hdz HM;clear hh hb1 hg hx hx2 HM hv;go_enter Tryz.func275,Tryz.ntmps275
 go_wp2_with fail
 refine (min_any h q (.pointer none) _ H.out.1).mono ?_;rintro e w1 ⟨he,hb⟩;rw [HN.out] at he;subst he;have hv:=H.out.2.2.stay hb;have c0:=hv.c0;have c1:=hv.c1;have z0:=hv.z0;have z1:=hv.z1;have hs:=hv.set (.int .i64 x1) (.int .i64 x2);have k0:=hs.c0;have k1:=hs.c1;have Y:=hdz (H.out.2.1.trans (hb.mono H.out.2.1.size));clear hb hv hs;go_wp2_with fail
 refine bodyPost_ret (v := .tuple #[.agg #[.int .i64 x1,.int .i64 x2],.bool z]) (by simp [results,Tryz.results275,go_sem,k0,k1]) rfl ⟨rfl,(Y.out.setCell (by simp) _).setCell (by simp) _⟩
theorem popK (h:Lh) (q:Option Addr) (w:World) (hs:h.size < 16777216) (hh:LAt w h q) :
  Calls Tryz.prog 276 #[.agg #[.pointer q],.pointer none] w fun e w' => ∃ q':Option Addr,e = .returned (.tuple #[.iface 181 (.agg #[.pointer q']),.bool h.some]) ∧ LAt w' h.pop q' ∧ Below w.heap.size w w':=by
 have hm:∀ (k:Nat) (w:World),(method (k + 1) 113 (.agg #[.pointer q]) "Pop").run Tryz.prog w = .ok (364,.agg #[.pointer q]) w:=fun _ _ => by kernel_rfl
 have hb1:Below w.heap.size w (w.alloc (.cells #[.pointer q] 181)):=bqA _;have H:=hdz (anz (hh.stay hb1) hb1);have HS:=hdz hs;obtain ⟨z,hz⟩:=exq (h.some);rw [← hz];have HZ:=hdz hz;clear hh hb1 hs hz;go_enter Tryz.func276,Tryz.ntmps276
 go_wp2_with fail
 refine (pop_any none 0 0 h q _ (by have:=HS.out;omega) trivial (by decide) (by decide) (by decide) (by decide) H.out.1).mono ?_;rintro e w1 ⟨q',he,ht, -,hb⟩;rw [← HZ.out] at he;subst he;have Y:=hdz (anz ht trivial);have hT:=H.out.2.trans (hb.toBelow.mono H.out.2.size);have HT:=hdz hT;clear ht hb hT;go_wp2_with fail
 refine bodyPost_ret (v := .tuple #[.iface 181 (.agg #[.pointer q']),.bool z]) (by simp [results,Tryz.results276,go_sem]) rfl ⟨q',rfl,Y.out.1.stay (bqA _),HT.out.alloc HT.out.size _⟩
theorem sizeK (h:Lh) (q:Option Addr) (w:World) (hh:LAt w h q) :
  Calls Tryz.prog 278 #[.agg #[.pointer q]] w fun e w' => e = .returned (.int .i64 (h.size:Nat)) ∧ Below w.heap.size w w':=by
 have hm:∀ (k:Nat) (w:World),(method (k + 1) 113 (.agg #[.pointer q]) "Size").run Tryz.prog w = .ok (365,.agg #[.pointer q]) w:=fun _ _ => by kernel_rfl
 have hb1:Below w.heap.size w (w.alloc (.cells #[.pointer q] 181)):=bqA _;have H:=hdz (anz (hh.stay hb1) hb1);obtain ⟨z,hz⟩:∃ z:Int,z = (h.size:Nat):=⟨_,rfl⟩;rw [← hz];have HZ:=hdz hz;clear hh hb1 hz;go_enter Tryz.func278,Tryz.ntmps278
 go_wp2_with fail
 refine (size_any h q _ H.out.1).mono ?_;rintro e w1 ⟨he,hb⟩;rw [← HZ.out] at he;subst he;have Y:=hdz (H.out.2.trans (hb.mono H.out.2.size));clear hb;go_wp2_with fail
 refine bodyPost_ret (v := .int .i64 z) (by simp [results,Tryz.results278,go_sem]) rfl ⟨rfl,Y.out⟩
theorem kindK (v:Value) (w:World):Calls Tryz.prog 37 #[.agg #[.iface 181 v]] w fun e w' => e = .returned (.int .i64 3) ∧ Below w.heap.size w w':=by
 have hb1:Below w.heap.size w (w.alloc (.cells #[.iface 181 v] 27)):=bqA _;have h1:∀ (w:World),(Instr.typeAssert (.iface 181 v) 25 177 true).run Tryz.prog w = .ok (.tuple #[.agg #[.pointer none],.bool false]) w:=fun _ => by kernel_rfl
 have h2:∀ (w:World),(Instr.typeAssert (.iface 181 v) 25 179 true).run Tryz.prog w = .ok (.tuple #[.agg #[.pointer none,.int .i64 0],.bool false]) w:=fun _ => by kernel_rfl
 have h3:∀ (w:World),(Instr.typeAssert (.iface 181 v) 25 181 true).run Tryz.prog w = .ok (.tuple #[v,.bool true]) w:=fun _ => by kernel_rfl
 go_enter Tryz.func37,Tryz.ntmps37
 go_wp2_with fail
 refine bodyPost_ret (v := .int .i64 3) (by simp [results,Tryz.results37,go_sem]) rfl ⟨rfl,hb1⟩
theorem byK (q:Option Addr) (w:World):Calls Tryz.prog 44 #[.agg #[.pointer q]] w fun e w' => e = .returned (.agg #[.iface 181 (.agg #[.pointer q])]) ∧ Below w.heap.size w w':=by
 have hb1:Below w.heap.size w ((w.alloc (.cells #[.pointer q] 113)).alloc (.cells #[.iface 181 (.agg #[.pointer q])] 27)):=(bqA _).alloc (by simp) _;go_enter Tryz.func44,Tryz.ntmps44
 go_wp2_with fail
 refine bodyPost_ret (v := .agg #[.iface 181 (.agg #[.pointer q])]) (by simp [results,Tryz.results44,go_sem]) rfl ⟨rfl,hb1⟩
theorem ofK (A:Option Addr) (xs:List (Int × Int)) (cap:Nat) (w:World) (hr:Row w A xs) (hn:xs.length < 16777216) :
  Calls Tryz.prog 18 #[.pointer none,.int .i64 3,.slice A xs.length cap] w fun e w' => ∃ q':Option Addr,e = .returned (.tuple #[.agg #[.iface 181 (.agg #[.pointer q'])],.int .i64 0]) ∧ LAt w' (ofL xs) q' ∧ Below w.heap.size w w':=by
 have hb1:Below w.heap.size w (w.alloc (.cells #[.nilIface] 27)):=bqA _;have H:=hdz (anz (hr.below hb1) hb1);obtain ⟨L,hL⟩:=exq (xs.length);have HL:=hdz (anz hL (hL ▸ hn:L < 16777216));rw [← hL];clear hr hb1 hL hn;go_enter Tryz.func18,Tryz.ntmps18
 go_wp2_with fail
 have hL:=HL.out.1;subst hL;refine (of_any none 0 0 A xs cap _ trivial (by decide) (by decide) (by decide) (by decide) H.out.1 HL.out.2 (fun _ e => by cases e)).mono ?_;rintro e w1 ⟨q',rfl,ht, -,hb⟩;have hB:=hb.toBelow;have hF:w1.heap[w.heap.size]? = some (.cells #[.nilIface] 27 (0,0)):=(hB.block _ (by simp)).trans (heap_alloc_new w _);have Y:=hdz (anz ht (anz (H.out.2.trans (hB.mono H.out.2.size)) hF));clear hB hF;clear ht hb;go_wp2_with fail
 refine (byK q' _).mono ?_;rintro e w2 ⟨rfl,hb2⟩;have hF:=(hb2.block _ (lt_of_heap Y.out.2.2)).trans Y.out.2.2;have k0:=one_cell hF;have z0:=one_thaw hF;have Z:=hdz (anz (Y.out.1.stay hb2) (anz (Y.out.2.1.trans (hb2.mono Y.out.2.1.size)) hF));clear hb2 hF;have k1:=one_cell (heap_put1 Z.out.2.2 (.iface 181 (.agg #[.pointer q'])));go_wp2_with fail
 refine bodyPost_ret (v := .tuple #[.agg #[.iface 181 (.agg #[.pointer q'])],.int .i64 0]) (by simp [results,Tryz.results18,go_sem,k1]) rfl ⟨q',rfl,Z.out.1.kp (Kpt.set Z.out.2.2 (by unfold NodeT;decide) 0 _),Z.out.2.1.setCell (Nat.le_refl _) _⟩
theorem nodes_nh {W W':World} (h:Kpt NH W W'):Kpt NodeT W W':=fun b cs t ht => h b cs t (by unfold NodeT at ht;rcases ht with rfl | rfl <;> decide)
def At (W:World) (v:Value) (l:List (Int × Int)):Prop:=∃ q:Option Addr,v = .agg #[.pointer q] ∧ ∃ h:Lh,LAt W h q ∧ h.good ∧ srt h.all = l
theorem kindC:KindC 3 181 273 274 275 276 278 At where
 mI:=fun _ _ _ => by kernel_rfl
 mM:=fun _ _ _ => by kernel_rfl
 mN:=fun _ _ _ => by kernel_rfl
 mP:=fun _ _ _ => by kernel_rfl
 mS:=fun _ _ _ => by kernel_rfl
 cI:=fun _ _ => by kernel_rfl
 cM:=fun _ _ => by kernel_rfl
 cN:=fun _ _ => by kernel_rfl
 cP:=fun _ _ => by kernel_rfl
 cS:=fun _ _ => by kernel_rfl
 stay:=fun ha hb => by
  obtain ⟨q,rfl,h,hh,hg,rfl⟩:=ha;exact ⟨q,rfl,h,hh.stay hb,hg,rfl⟩
 keep:=fun ha hk hs => by
  obtain ⟨q,rfl,h,hh,hg,rfl⟩:=ha;exact ⟨q,rfl,h,hh.kp (nodes_nh hk),hg,rfl⟩
 ins:=fun v l x w ha hn hx => by
  obtain ⟨q,rfl,h,hh,hg,rfl⟩:=ha;rw [size_srt] at hn;exact (insK h x q w hn hh).mono fun e w' ⟨q',he,ht,hb⟩ => ⟨_,he,⟨q',rfl,_,ht,good_insert hg hx,by rw [srt_insert,srt_in]⟩,hb⟩
 meld:=fun v v2 l l2 w ha ha2 hn => by
  obtain ⟨q,rfl,h,hh,hg,rfl⟩:=ha;obtain ⟨p,rfl,h2,hh2,hg2,rfl⟩:=ha2;rw [size_srt,size_srt] at hn;exact (meldK h h2 q p w hn hh hh2).mono fun e w' ⟨q',he,ht,hb⟩ => ⟨_,he,⟨q',rfl,_,ht,good_meld hg hg2,by rw [srt_meld,srt_two]⟩,hb⟩
 meldNo:=fun v l w ha => by
  obtain ⟨q,rfl,h,hh,hg,rfl⟩:=ha;exact meldNoK q w
 min:=fun v l w ha => by
  obtain ⟨q,rfl,h,hh,hg,rfl⟩:=ha;exact minK h q w hg hh
 pop:=fun v l w ha hn => by
  obtain ⟨q,rfl,h,hh,hg,rfl⟩:=ha;rw [size_srt] at hn;exact (popK h q w hn hh).mono fun e w' ⟨q',he,ht,hb⟩ => ⟨_,by rw [← some_srt hg];exact he,⟨q',rfl,_,ht,good_pop hg,srt_pop hg.ok⟩,hb⟩
 size:=fun v l w ha => by
  obtain ⟨q,rfl,h,hh,hg,rfl⟩:=ha;rw [size_srt];exact sizeK h q w hh
 kind:=fun v w => kindK v w
 of:=fun A xs cap w hr hn hf => (ofK A xs cap w hr hn).mono fun e w' ⟨q',he,ht,hb⟩ => ⟨_,he,⟨q',rfl,_,ht,good_of hf,srt_of xs⟩,hb⟩
end Go.Proofs.YtmeodbjlmjpnbaaGreat.Pd
