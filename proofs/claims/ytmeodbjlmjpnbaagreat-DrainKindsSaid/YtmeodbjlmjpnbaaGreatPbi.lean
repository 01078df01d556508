/- Plain facts, of no program: binomial heaps under the names that the laws' walks use (those of layer 6's): melded, put in, of a row, the least one taken out: elements, order, sizes, counts. No conditions. -/
import Derived.Test.YtmeodbjlmjpnbaaGreatPt
import Derived.Deep.LoopGhost
import Derived.Deep.RegionHeld3
import Derived.Deep.DrawnRows
import Derived.Test.YtmeodbjlmjpnbaaGreatPa
import Derived.Handy
set_option maxRecDepth 100000
set_option maxHeartbeats 4000000
namespace Go.Proofs.YtmeodbjlmjpnbaaGreat.Bi
open Go.Sort Go.RowKit
structure Lh where
 ts:List Tre
def Lh.nil:Lh:=⟨[]⟩
def Lh.size (h:Lh):Nat:=bSize h.ts
def Lh.all (h:Lh):List (Int × Int):=bAll h.ts
def Lh.show (h:Lh):List UInt8:=bShow h.ts
def Lh.min (h:Lh):(Int × Int) × Bool:=bMin h.ts
def Lh.some (h:Lh):Bool:=h.min.2
def Lh.one (x:Int × Int):Lh:=⟨[leafT x]⟩
def meld (a b:Lh):Lh:=⟨bmeld a.ts b.ts⟩
def meldN (a b:Lh):Nat:=bmeldN a.ts b.ts
def Lh.insert (h:Lh) (x:Int × Int):Lh:=meld (.one x) h
def Lh.pop (h:Lh):Lh:=⟨bPop h.ts⟩
def Lh.popN (h:Lh):Nat:=bPopN h.ts
def Lh.tellN (h:Lh):Nat:=h.ts.length - 1
def ofL (l:List (Int × Int)):Lh:=l.foldl Lh.insert .nil
def putN:Lh → List (Int × Int) → Nat
 | _,[] => 0
 | h,x :: r => meldN (.one x) h + putN (h.insert x) r
theorem bmeld_leaf (x:Int × Int) (l:List Tre):bmeld [leafT x] l = putT l (leafT x) ∧ bmeldN [leafT x] l = putTN l (leafT x):=by
 cases l with
 | nil => exact ⟨by rw [bmeld_right];rfl,by rw [bmeldN_right];rfl⟩
 | cons u r =>
  have h0:(leafT x).rank = 0:=rfl;by_cases h:(leafT x).rank < u.rank
  ·exact ⟨by rw [bmeld_lt h,bmeld_nil,putT,if_pos h],by rw [bmeldN_lt h,bmeldN_nil,putTN,if_pos h]⟩
  ·have he:(leafT x).rank = u.rank:=by omega
   exact ⟨by rw [bmeld_eq he,bmeld_nil,putT,if_neg h],by rw [bmeldN_eq he,bmeld_nil,bmeldN_nil,putTN,if_neg h]⟩
theorem insert_ts (h:Lh) (x:Int × Int):(h.insert x).ts = bIns h.ts x:=(bmeld_leaf x h.ts).1
theorem insertN (h:Lh) (x:Int × Int):meldN (.one x) h = putTN h.ts (leafT x):=(bmeld_leaf x h.ts).2
theorem fold_ts:∀ (l:List (Int × Int)) (h:Lh),(l.foldl Lh.insert h).ts = l.foldl bIns h.ts
 | [],_ => rfl
 | x :: r,h => by rw [List.foldl_cons,List.foldl_cons,fold_ts r (h.insert x),insert_ts]
theorem ofL_ts (l:List (Int × Int)):(ofL l).ts = bOf l:=fold_ts l .nil
theorem Lh.all_length (h:Lh):h.all.length = h.size:=bAll_length _
theorem meld_all (a b:Lh):(meld a b).all.Perm (a.all ++ b.all):=bmeld_all _ _
theorem meld_size (a b:Lh):(meld a b).size = a.size + b.size:=bmeld_size _ _
theorem one_all (x:Int × Int):(Lh.one x).all = [x]:=by simp [Lh.one,Lh.all,bAll,leafT,Tre.all,Wood.all]
theorem one_size (x:Int × Int):(Lh.one x).size = 1:=rfl
theorem insert_all (h:Lh) (x:Int × Int):(h.insert x).all.Perm (x :: h.all):=by
 refine (meld_all _ _).trans ?_;rw [one_all];rfl
theorem insert_size (h:Lh) (x:Int × Int):(h.insert x).size = h.size + 1:=by unfold Lh.insert;rw [meld_size,one_size];omega
theorem ofL_all (l:List (Int × Int)):(ofL l).all.Perm l:=by unfold Lh.all;rw [ofL_ts];exact bOf_all l
theorem ofL_size (l:List (Int × Int)):(ofL l).size = l.length:=by unfold Lh.size;rw [ofL_ts];exact bOf_size l
theorem ofL_snoc (l:List (Int × Int)) (x:Int × Int):ofL (l ++ [x]) = (ofL l).insert x:=by simp [ofL]
theorem putN_snoc:∀ (l:List (Int × Int)) (h:Lh) (x:Int × Int),putN h (l ++ [x]) = putN h l + meldN (.one x) (l.foldl Lh.insert h)
 | [],h,x => by simp [putN]
 | y :: l,h,x => by simp only [List.cons_append,putN,List.foldl_cons];rw [putN_snoc l (h.insert y) x];omega
def Lh.ok (h:Lh):Prop:=bOk h.ts
theorem meld_ok (a b:Lh) (ha:a.ok) (hb:b.ok):(meld a b).ok:=bok_meld ha hb
theorem one_ok (x:Int × Int):(Lh.one x).ok:=⟨by intro t ht;simp [Lh.one] at ht;subst ht;exact leaf_hok x,by intro t ht;simp [Lh.one] at ht;subst ht;exact leaf_bin x,by simp [Lh.one]⟩
theorem ofL_ok (l:List (Int × Int)):(ofL l).ok:=by unfold Lh.ok;rw [ofL_ts];exact bok_of l
theorem pop_ok {h:Lh} (hk:h.ok):h.pop.ok:=bok_pop hk
theorem Lh.size_nil {h:Lh} (hz:h.size = 0):h = .nil:=by
 obtain ⟨l⟩:=h;have:l = []:=bSize_nil hz;subst this;rfl
theorem trees_size (h:Lh):h.ts.length ≤ h.size:=by
 obtain ⟨l⟩:=h;show l.length ≤ bSize l;induction l with
 | nil => exact Nat.le_refl _
 | cons t r ih => simp only [List.length_cons,bSize,Tre.size];omega
theorem meldN_size (a b:Lh):meldN a b ≤ a.size + b.size:=by
 have h1:=bmeldN_le a.ts b.ts;have h2:=trees_size a;have h3:=trees_size b;unfold meldN;omega
theorem tellN_size (h:Lh):h.tellN ≤ h.size:=by have:=trees_size h;unfold Lh.tellN;omega
theorem popN_size {h:Lh}:h.popN ≤ h.size:=by
 obtain ⟨l⟩:=h;match l with
 | [] => exact Nat.zero_le _
 | t :: r =>
  have hl:=leastI_lt (l:=t :: r) (by simp);have hgt:(t :: r)[leastI (t :: r)]? = some (t :: r)[leastI (t :: r)]:=List.getElem?_eq_getElem hl;have hk:kidsAt (t :: r) (leastI (t :: r)) = ((t :: r)[leastI (t :: r)]).ks.list.reverse:=by unfold kidsAt;rw [hgt]
  have h3:=bmeldN_le (kidsAt (t :: r) (leastI (t :: r))) (restAt (t :: r) (leastI (t :: r)));have h4:=trees_size ⟨restAt (t :: r) (leastI (t :: r))⟩;have h5:=(restAt_all hl).length_eq;rw [bAll_length,List.length_append,bAll_length,Tre.all_length] at h5;have h6:=((t :: r)[leastI (t :: r)]).ks.len_le;show bmeldN (kidsAt (t :: r) (leastI (t :: r))) (restAt (t :: r) (leastI (t :: r))) ≤ bSize (t :: r);rw [hk] at h3 ⊢;rw [List.length_reverse,Wood.list_len] at h3;have h7:((t :: r)[leastI (t :: r)]).size = 1 + ((t :: r)[leastI (t :: r)]).bs.length + ((t :: r)[leastI (t :: r)]).ks.size:=rfl;simp only [Lh.size] at h4;omega
theorem putN_le:∀ (l:List (Int × Int)) (h:Lh),putN h l ≤ l.length * (h.size + l.length + 1)
 | [],h => by simp [putN]
 | x :: r,h => by
  have h1:=meldN_size (.one x) h;have h2:=putN_le r (h.insert x);rw [insert_size] at h2;rw [one_size] at h1;simp only [putN,List.length_cons,Nat.add_mul];have h3:r.length * (h.size + 1 + r.length + 1) = r.length * (h.size + (r.length + 1) + 1):=by congr 1;omega
  omega
structure Lh.good (h:Lh):Prop where
 ok:h.ok
 fit:fits h.all
theorem good_meld {a b:Lh} (ha:a.good) (hb:b.good):(meld a b).good:=⟨meld_ok _ _ ha.ok hb.ok,(ha.fit.join hb.fit).perm (meld_all a b).symm⟩
theorem good_one {x:Int × Int} (h:in64 x.1 ∧ in64 x.2):(Lh.one x).good:=⟨one_ok x,by rw [one_all];exact fits.more h fits.nil⟩
theorem good_insert {a:Lh} {x:Int × Int} (ha:a.good) (h:in64 x.1 ∧ in64 x.2):(a.insert x).good:=good_meld (good_one h) ha
theorem good_of {l:List (Int × Int)} (h:fits l):(ofL l).good:=⟨ofL_ok l,h.perm (ofL_all l).symm⟩
theorem good_pop {a:Lh} (ha:a.good):a.pop.good:=⟨pop_ok ha.ok,(bgood_pop ⟨ha.ok,ha.fit⟩).fit⟩
theorem srt_meld (a b:Lh):srt (meld a b).all = srt (a.all ++ b.all):=srt_perm (meld_all a b)
theorem srt_insert (a:Lh) (x:Int × Int):srt (a.insert x).all = srt (x :: a.all):=srt_perm (insert_all a x)
theorem srt_of (l:List (Int × Int)):srt (ofL l).all = srt l:=srt_perm (ofL_all l)
theorem ok_srt {h:Lh} (hk:h.ok) (hne:h.min.2 = true):srt h.all = h.min.1 :: srt h.pop.all:=by
 have:h.ts ≠ []:=by intro e;unfold Lh.min at hne;rw [e] at hne;cases hne
 exact bpop_srt hk this
theorem srt_pop {a:Lh} (h:a.ok):srt a.pop.all = (srt a.all).tail:=by
 by_cases hne:a.min.2 = true
 ·rw [ok_srt h hne];rfl
 ·have:a.ts = []:=by
   cases ht:a.ts with
   | nil => rfl
   | cons t r => unfold Lh.min at hne;rw [ht] at hne;exact absurd rfl hne
  unfold Lh.pop Lh.all;rw [this];show srt (bAll []) = (srt (bAll [])).tail;simp [bAll,srt_nil]
theorem min_some (t:Lh):t.min.2 = t.some:=rfl
end Go.Proofs.YtmeodbjlmjpnbaaGreat.Bi
namespace Go.Proofs.YtmeodbjlmjpnbaaGreat.Bi.Hp
open Go.Sort Go.RowKit
structure HP where
 q:Option Addr
 n:Int
abbrev hp (p:HP):Value := .agg #[.pointer p.q,.int .i64 p.n]
def NodeT (t:TypeId):Prop:=TreeT t ∨ t = 291
abbrev Kp (W W':World):Prop:=Kpt NodeT W W'
theorem node_ne:¬ NodeT 89 := by unfold NodeT TreeT;decide
theorem elemT_ne:¬ NodeT 29 := by unfold NodeT TreeT;decide
theorem heapT_ne:¬ NodeT 108 := by unfold NodeT TreeT;decide
theorem listT_ne:¬ NodeT 106 := by unfold NodeT TreeT;decide
section
variable {W W':World}
theorem Kp.tree (h:Kp W W'):Go.Proofs.YtmeodbjlmjpnbaaGreat.Kp W W':=fun k cs t ht e => h k cs t (.inl ht) e
theorem ch_kp (h:Kp W W'):∀ {m m':Nat} {p:Option Addr} {xs:List (Option Addr)},W.heap.size ≤ W'.heap.size → m ≤ W.heap.size → m' = W'.heap.size → Chain Lt.one 291 m W p xs → Chain Lt.one 291 m' W' p xs
 | _,_,_,[],_,_,_,hl => hl
 | _,_,_,_ :: _,hs,hm,he,⟨b,q,hp,hb,hv,hr⟩ => ⟨b,q,hp,by omega,h _ _ _ (.inr rfl) hv,ch_kp h hs hm he hr⟩
def TsAt (W:World):List Tre → List (Option Addr) → Prop
 | [],ps => ps = []
 | t :: ts,ps => ∃ p ps',ps = p :: ps' ∧ TAt W p (some t) ∧ TsAt W ts ps'
theorem TsAt.kp (h:Kp W W'):∀ {ts:List Tre} {ps:List (Option Addr)},TsAt W ts ps → TsAt W' ts ps
 | [],_,hp => hp
 | _ :: _,_,⟨p,ps',e,h1,h2⟩ => ⟨p,ps',e,h1.kp h.tree,TsAt.kp h h2⟩
theorem TsAt.length:∀ {ts:List Tre} {ps:List (Option Addr)},TsAt W ts ps → ps.length = ts.length
 | [],_,h => by rw [h];rfl
 | _ :: _,_,⟨_,_,e,_,h⟩ => by rw [e,List.length_cons,h.length,List.length_cons]
theorem TsAt.at:∀ {ts:List Tre} {ps:List (Option Addr)} {j:Nat} {t:Tre},TsAt W ts ps → ts[j]? = some t → ∃ p,ps[j]? = some p ∧ TAt W p (some t)
 | [],_,_,_,_,h => by simp at h
 | u :: _,_,0,t,⟨p,ps',e,h1,_⟩,h => by
  have:u = t:=by simpa using h
  subst this;subst e;exact ⟨p,rfl,h1⟩
 | _ :: _,_,j + 1,t,⟨p,ps',e,_,h2⟩,h => by
  subst e;obtain ⟨q,hq,ht⟩:=TsAt.at (j:=j) h2 (by simpa using h);exact ⟨q,by simpa using hq,ht⟩
theorem TsAt.append:∀ {ts us:List Tre} {ps qs:List (Option Addr)},TsAt W ts ps → TsAt W us qs → TsAt W (ts ++ us) (ps ++ qs)
 | [],_,_,_,h,k => by rw [h];exact k
 | _ :: _,_,_,_,⟨p,ps',e,h1,h2⟩,k => by rw [e];exact ⟨p,ps' ++ _,rfl,h1,TsAt.append h2 k⟩
theorem TsAt.one {t:Tre} {p:Option Addr} (h:TAt W p (some t)):TsAt W [t] [p]:=⟨p,[],rfl,h,rfl⟩
theorem TsAt.reverse:∀ {ts:List Tre} {ps:List (Option Addr)},TsAt W ts ps → TsAt W ts.reverse ps.reverse
 | [],_,h => by rw [h];rfl
 | t :: ts,_,⟨p,ps',e,h1,h2⟩ => by
  rw [e,List.reverse_cons,List.reverse_cons];exact TsAt.append (TsAt.reverse h2) (TsAt.one h1)
theorem TsAt.take:∀ {ts:List Tre} {ps:List (Option Addr)} (k:Nat),TsAt W ts ps → TsAt W (ts.take k) (ps.take k)
 | [],_,k,h => by rw [h];simp [TsAt]
 | _ :: _,_,0,_ => by simp [TsAt]
 | _ :: _,_,k + 1,⟨p,ps',e,h1,h2⟩ => by rw [e];exact ⟨p,ps'.take k,rfl,h1,TsAt.take k h2⟩
theorem TsAt.drop:∀ {ts:List Tre} {ps:List (Option Addr)} (k:Nat),TsAt W ts ps → TsAt W (ts.drop k) (ps.drop k)
 | [],_,k,h => by rw [h];simp [TsAt]
 | _ :: _,_,0,h => h
 | _ :: _,_,k + 1,⟨p,ps',e,h1,h2⟩ => by rw [e];exact TsAt.drop k h2
theorem TsAt.tail {ts:List Tre} {ps:List (Option Addr)} (h:TsAt W ts ps):TsAt W ts.tail ps.tail:=by
 have:=h.drop 1;rwa [List.drop_one,List.drop_one] at this
theorem KAt.ts:∀ {ks:Wood} {ps:List (Option Addr)},KAt W ks ps → TsAt W ks.list ps
 | .nil,_,h => h
 | .cons _ _ _ _,_,⟨_,ps',e,hn,h⟩ => ⟨_,ps',e,⟨_,rfl,hn⟩,KAt.ts h⟩
def LAt (W:World) (t:Lh) (p:HP):Prop:=∃ ps,Ch Lt.one 291 W p.q ps ∧ TsAt W t.ts ps ∧ p.n = (t.ts.length:Nat) ∧ t.size < 268435456 ∧ t.ok
theorem LAt.kps {t:Lh} {p:HP} (hn:LAt W t p) (h:Kp W W') (hs:W.heap.size ≤ W'.heap.size):LAt W' t p:=by
 obtain ⟨ps,h1,h2,h3⟩:=hn;exact ⟨ps,ch_kp h hs (Nat.le_refl _) rfl h1,h2.kp h,h3⟩
theorem LAt.stay {t:Lh} {p:HP} (hn:LAt W t p) (h:Below W.heap.size W W'):LAt W' t p:=hn.kps (Kpt.below h) h.size
theorem LAt.small {t:Lh} {p:HP} (hn:LAt W t p):t.size < 268435456:=by obtain ⟨_,_,_,_,h,_⟩:=hn;exact h
theorem LAt.right {t:Lh} {p:HP} (hn:LAt W t p):t.ok:=by obtain ⟨_,_,_,_,_,h⟩:=hn;exact h
theorem LAt.len {t:Lh} {p:HP} (hn:LAt W t p):t.ts.length < 268435456:=by have:=hn.small;have:=trees_size t;omega
theorem LAt.list {t:Lh} {p:HP} (hn:LAt W t p):∃ (ps:List (Option Addr)) (n:Nat),p.n = (n:Int) ∧ n = t.ts.length ∧ Lt.LL W p.q n ps ∧ TsAt W t.ts ps:=by
 have hl:=hn.len;obtain ⟨ps,h1,h2,h3,h4,h5⟩:=hn;exact ⟨ps,t.ts.length,h3,rfl,⟨h1,h2.length.symm,by omega⟩,h2⟩
theorem LAt.of {ts:List Tre} {q:Option Addr} {n:Nat} {ps:List (Option Addr)} (hl:Lt.LL W q n ps) (ht:TsAt W ts ps) (hs:bSize ts < 268435456) (hk:bOk ts):LAt W ⟨ts⟩ ⟨q,(n:Int)⟩ :=
 ⟨ps,hl.1,ht,by show (n:Int) = _;rw [hl.2.1,ht.length],hs,hk⟩
theorem LAt.nil (W:World):LAt W .nil ⟨none,0⟩:=⟨[],Ch.none W,rfl,rfl,by decide,bok_nil⟩
theorem LAt.no {p:HP} (h:LAt W .nil p):p = ⟨none,0⟩:=by
 obtain ⟨q,n⟩:=p;obtain ⟨ps,h1,h2,h3, -⟩:=h;obtain rfl:ps = []:=h2;have h4:q = none:=h1;have h5:n = 0:=h3;rw [h4,h5]
end
def Gave (mo:Option Nat) (c m:Int) (t:Lh) (w:World) (e:Ending) (w':World):Prop:=∃ p:HP,e = .returned (.agg #[.pointer p.q,.int .i64 p.n]) ∧ LAt w' t p ∧ MAt w' mo c m ∧ Bt mo w w'
section
variable {W W':World} {mo:Option Nat} {c m:Int}
theorem Kp.bt (hb:Bt mo W W') (hm:MAt W mo c m):Kp W W':=hb.kpt hm node_ne
theorem LAt.bt {t:Lh} {p:HP} (h:LAt W t p) (hb:Bt mo W W') (hm:MAt W mo c m):LAt W' t p:=h.kps (hb.kpt hm node_ne) hb.size
theorem TsAt.bt {ts:List Tre} {ps:List (Option Addr)} (h:TsAt W ts ps) (hb:Bt mo W W') (hm:MAt W mo c m):TsAt W' ts ps:=h.kp (hb.kpt hm node_ne)
theorem ll_bt {q:Option Addr} {n:Nat} {ps:List (Option Addr)} (h:Lt.LL W q n ps) (hb:Bt mo W W') (hm:MAt W mo c m):Lt.LL W' q n ps:=⟨ch_kp (hb.kpt hm node_ne) hb.size (Nat.le_refl _) rfl h.1,h.2⟩
end
end Go.Proofs.YtmeodbjlmjpnbaaGreat.Bi.Hp
namespace Go.Proofs.YtmeodbjlmjpnbaaGreat.Bi.Hp
open Go.Sort Go.RowKit
section
variable {W W':World} {mo:Option Nat} {c m:Int} {b:Nat} {t:TypeId} {x y:Value}
theorem Kp.set2 (h:Box2 W b t x y) (ht:¬ NodeT t) (u v:Value):Kp W ((W.setCell ⟨b,0,none⟩ u).setCell ⟨b,1,none⟩ v):=(Kpt.set h ht 0 u).trans (Kpt.set (h.set0 u) ht 1 v)
theorem size_set2 (W:World) (b:Nat) (u v:Value):((W.setCell ⟨b,0,none⟩ u).setCell ⟨b,1,none⟩ v).heap.size = W.heap.size:=by simp [World.setCell]
theorem LAt.set2 {l:Lh} {p:HP} (hl:LAt W l p) (h:Box2 W b t x y) (ht:¬ NodeT t) (u v:Value):LAt ((W.setCell ⟨b,0,none⟩ u).setCell ⟨b,1,none⟩ v) l p:=hl.kps (Kp.set2 h ht u v) (by rw [size_set2];exact Nat.le_refl _)
theorem TsAt.set2 {ts:List Tre} {ps:List (Option Addr)} (hl:TsAt W ts ps) (h:Box2 W b t x y) (ht:¬ NodeT t) (u v:Value):TsAt ((W.setCell ⟨b,0,none⟩ u).setCell ⟨b,1,none⟩ v) ts ps:=hl.kp (Kp.set2 h ht u v)
theorem ll_set2 {q:Option Addr} {n:Nat} {ps:List (Option Addr)} (hl:Lt.LL W q n ps) (h:Box2 W b t x y) (ht:¬ NodeT t) (u v:Value):Lt.LL ((W.setCell ⟨b,0,none⟩ u).setCell ⟨b,1,none⟩ v) q n ps:=⟨ch_kp (Kp.set2 h ht u v) (by rw [size_set2];exact Nat.le_refl _) (Nat.le_refl _) rfl hl.1,hl.2⟩
end
theorem tail_ok {t:Tre} {ts:List Tre} (h:bOk (t :: ts)):bOk ts:=⟨fun u hu => h.hok u (List.mem_cons_of_mem _ hu),fun u hu => h.bin u (List.mem_cons_of_mem _ hu),(List.pairwise_cons.1 h.rise).2⟩
theorem rest_any (t:Tre) (ts:List Tre) (p:HP) (w:World) (h:LAt w ⟨t :: ts⟩ p):Calls Tryz.prog 361 #[hp p] w fun e w' => ∃ p':HP,e = .returned (.agg #[.pointer p'.q,.int .i64 p'.n]) ∧ LAt w' ⟨ts⟩ p' ∧ Below w.heap.size w w':=by
 have hs:=h.small;obtain ⟨ps,n,hn,hnl,hl,ht⟩:=h.list;obtain ⟨q,pn⟩:=p;change pn = (n:Int) at hn;subst hn;have hb1:Below w.heap.size w ((w.alloc (.cells #[.pointer q,.int .i64 (n:Int)] 108)).alloc (.cells #[.pointer none,.int .i64 0] 108)):=((Below.refl _ w).alloc (Nat.le_refl _) _).alloc (by simp) _;have bR:=Box2.new (w.alloc (.cells #[.pointer q,.int .i64 (n:Int)] 108)) 108 (.pointer none) (.int .i64 0);simp only [World.size_alloc] at bR;have H:=hdz (anz (hl.stay hb1) (anz (ht.kp (Kpt.below hb1)) (anz hb1 (anz bR (anz hs h.right)))));clear h hl ht hb1 bR hs hnl;go_enter Tryz.func361,Tryz.ntmps361
 go_wp2_with fail
 ((with_reducible refine (Lt.rest_l H.out.1).mono ?_);rintro e w2 ⟨q2,n2,rfl,hl2,hb2⟩);have B2:=H.out.2.2.2.1.stay hb2;have c0:=B2.c0;have c1:=B2.c1;have z0:=B2.z0;have z1:=B2.z1;have X:=hdz (anz B2 (anz hl2 (anz (H.out.2.1.kp (Kpt.below hb2)) (H.out.2.2.1.trans (hb2.mono H.out.2.2.1.size)))));clear B2 hl2 hb2;go_wp2_with fail
 have S:=X.out.1.set (.pointer q2) (.int .i64 (n2:Int));have d0:=S.c0;have d1:=S.c1;refine bodyPost_ret (v:=hp ⟨q2,(n2:Int)⟩) (by simp [results,Tryz.results361,go_sem,d0,d1]) rfl ⟨⟨q2,(n2:Int)⟩,rfl,?_,below_set2 X.out.2.2.2 (by omega) _ _⟩;exact LAt.of (ll_set2 X.out.2.1 X.out.1 heapT_ne _ _) (X.out.2.2.1.tail.set2 X.out.1 heapT_ne _ _) (by have h1:=H.out.2.2.2.2.1;simp only [Lh.size,bSize] at h1;omega) (tail_ok H.out.2.2.2.2.2)
theorem bSize_take {l:List Tre} {i:Nat} (h:i < l.length):bSize (l.take (i + 1)) = bSize (l.take i) + l[i].size:=by
 have e:∀ a b:List Tre,bSize (a ++ b) = bSize a + bSize b:=fun a b => by
  induction a with
  | nil => simp [bSize]
  | cons t r ih => simp only [List.cons_append,bSize,ih];omega
 rw [List.take_succ_eq_append_getElem h,e];simp [bSize]
theorem bSize_take_le (l:List Tre) (i:Nat):bSize (l.take i) ≤ bSize l:=by
 have e:∀ a b:List Tre,bSize (a ++ b) = bSize a + bSize b:=fun a b => by
  induction a with
  | nil => simp [bSize]
  | cons t r ih => simp only [List.cons_append,bSize,ih];omega
 conv => rhs;rw [← List.take_append_drop i l]
 rw [e];omega
theorem row_ptr {W:World} {b o:Nat} {ps:List (Option Addr)} (h:Row1 Lt.one W (some ⟨b,o,none⟩) ps) {j:Nat} {p:Option Addr} (hj:ps[j]? = some p):W.cell? ⟨b,o + j,none⟩ = some (.pointer p):=by
 obtain ⟨hlt,rfl⟩:=List.getElem?_eq_some_iff.1 hj;obtain ⟨b',o',e,hc⟩:=h (by omega)
 cases e
 exact hc j hlt
theorem row_some {W:World} {A:Option Addr} {ps:List (Option Addr)} (h:Row1 Lt.one W A ps) (h0:0 < ps.length):∃ b o,A = some ⟨b,o,none⟩:=by
 obtain ⟨b,o,e, -⟩:=h h0;exact ⟨b,o,e⟩
theorem size_any (t:Lh) (p:HP) (w:World) (h:LAt w t p):Calls Tryz.prog 360 #[hp p] w fun e w' => e = .returned (.int .i64 (t.size:Nat)) ∧ Below w.heap.size w w':=by
 have hs:=h.small;obtain ⟨ps,n,hn,hnl,hl,ht⟩:=h.list;obtain ⟨q,pn⟩:=p;change pn = (n:Int) at hn;subst hn;have hb1:Below w.heap.size w (w.alloc (.cells #[.pointer q,.int .i64 (n:Int)] 108)):=(Below.refl _ w).alloc (Nat.le_refl _) _;have H:=hdz (anz (hl.stay hb1) (anz (ht.kp (Kpt.below hb1)) (anz hb1 (anz hs hnl))));have hn:n < 268435456:=by have:=h.len;omega
 clear h hl ht hb1 hs hnl;go_enter Tryz.func360,Tryz.ntmps360
 go_wp2_with fail
 ((with_reducible refine (Lt.all_l H.out.1).mono ?_);rintro e w2 ⟨A,cc,rfl, -,hr,hnc,hb2⟩);have X:=hdz (anz hr (anz hnc (anz (H.out.2.1.kp (Kpt.below hb2)) (H.out.2.2.1.trans (hb2.mono H.out.2.2.1.size)))));clear hr hnc hb2;go_wp2_with fail
 go_loopg [3,10] n (fun k s iv wr => ∃ i z:Nat,iv = .int .i64 (i:Int) ∧ s = .int .i64 (z:Int) ∧ z = bSize (t.ts.take i) ∧ i + k = n ∧ w2 = wr)
 case atStart => exact ⟨0,0,rfl,rfl,rfl,by omega,rfl⟩
 case round =>
  obtain ⟨i,z,rfl,rfl,hz,hi,hw⟩:=hrel;subst hw;by_cases hlt:i < n
  ·have hil:i < t.ts.length:=by have:=H.out.2.2.2.2;omega
   obtain ⟨a,ha,hta⟩:=X.out.2.2.1.at (List.getElem?_eq_getElem hil);have hpl:=X.out.2.2.1.length;obtain ⟨b,o,rfl⟩:=row_some X.out.1 (by omega);have hc:=row_ptr X.out.1 ha;have hz1:=bSize_take hil;have hz2:=bSize_take_le t.ts (i + 1);have hsm:bSize t.ts < 268435456:=H.out.2.2.2.1;have HT:=hdz (show TAt w2 a (some t.ts[i]) ∧ osize (some t.ts[i]) < 1073741824 ∧ osize (some t.ts[i]) = t.ts[i].size from ⟨hta,by simp only [osize];omega,rfl⟩);obtain ⟨sz,hsz⟩:=exq (t.ts[i].size);have HZ:=hdz (show z + sz = bSize (t.ts.take (i + 1)) ∧ z + sz < 268435456 ∧ i + gk = n ∧ sz = t.ts[i].size from ⟨by omega,by omega,hi,hsz⟩);have q1:(i:Int) < (n:Int):=by omega
   have q2:(0:Int) ≤ (i:Int):=by omega
   have q3:decide ((i:Int) < (n:Int)) = true:=by simp;omega
   have q4:decide (i < n) = true:=by simp;omega
   have w1':IntKind.i64.wrap ((i:Int) + 1) = (i:Int) + 1:=by rw [IntKind.wrap_i64];omega
   have w2':IntKind.i64.wrap ((z:Int) + (sz:Int)) = (z:Int) + (sz:Int):=by have:=HZ.out;rw [IntKind.wrap_i64];omega
   clear hta ha hz1 hz2 hsm hz hi hsz hpl;go_wp2_with fail
   ((with_reducible refine (Go.Proofs.YtmeodbjlmjpnbaaGreat.size_any a _ _ HT.out.1 HT.out.2.1).mono ?_);rintro e w3 ⟨rfl,hw3⟩);subst hw3;rw [HT.out.2.2,← HZ.out.2.2.2];go_wp2_with fail
   go_roundg (n - 1 - i)
   case measure => have:=HZ.out;omega
   case rel => exact ⟨i + 1,z + sz,by first | rfl | (congr 1;unfold wrap64;omega),by rw [Int.natCast_add],HZ.out.1,by have:=HZ.out;omega,rfl⟩
  ·have q1:¬ (i:Int) < (n:Int):=by omega
   have q3:decide ((i:Int) < (n:Int)) = false:=by simp;omega
   have q4:decide (i < n) = false:=by simp;omega
   have hql:z = t.size:=by rw [hz,show t.ts.take i = t.ts from List.take_of_length_le (by have:=H.out.2.2.2.2;omega)];rfl
   have HQ:=hdz hql;clear hql hz hi;go_wp2_with fail
   go_ret
   exact ⟨by rw [← HQ.out];rfl,X.out.2.2.2⟩
end Go.Proofs.YtmeodbjlmjpnbaaGreat.Bi.Hp
namespace Go.Proofs.YtmeodbjlmjpnbaaGreat.Bi.Hp
open Go.Sort Go.RowKit
theorem putTN_le:∀ (l:List Tre) (t:Tre),putTN l t ≤ l.length
 | [],_ => Nat.le_refl _
 | u :: r,t => by
  have ih:=putTN_le r (lnk t u);unfold putTN;split
  ·exact Nat.zero_le _
  ·simp only [List.length_cons];omega
theorem len_bSize:∀ l:List Tre,l.length ≤ bSize l
 | [] => Nat.le_refl _
 | t :: r => by have:=len_bSize r;simp only [List.length_cons,bSize,Tre.size];omega
theorem putT_size (l:List Tre) (t:Tre):bSize (putT l t) = t.size + bSize l:=by
 have h:=(putT_all l t).length_eq;rw [bAll_length,List.length_append,bAll_length,t.all_length] at h;exact h
structure Ah (mo:Option Nat) (c m:Int) (ts:List Tre) (t:Tre) (a:Nat) (w:World) (us:List Tre) (u:Tre) (d:Nat) (ua q:Option Addr) (n:Nat) (qs:List (Option Addr)) (wr:World):Prop where
 tr:TAt wr ua (some u)
 ll:Lt.LL wr q n qs
 tl:TsAt wr us qs
 o:Box2 wr (a + 2) 106 (.pointer q) (.int .i64 (n:Int))
 r:Box2 wr (a + 1) 108 (.pointer none) (.int .i64 0)
 k:Trk NodeT mo w (c + d) (m + d) wr
 put:putT us u = putT ts t
 putN:d + putTN us u = putTN ts t
 low:∀ x ∈ us,u.rank ≤ x.rank
 rise:us.Pairwise (fun a b => a.rank < b.rank)
 size:u.size + bSize us = t.size + bSize ts
theorem rank_at {W:World} {p:Option Addr} {t:Tre} (h:TAt W p (some t)) (r:Nat) (hr:r = t.rank):Calls Tryz.prog 142 #[.pointer p] W fun e w' => e = .returned (.int .i64 (r:Int)) ∧ w' = W :=
 (Go.Proofs.YtmeodbjlmjpnbaaGreat.rank_any p (some t) W h).mono fun _ _ ⟨he,hw⟩ => ⟨by rw [he,hr];rfl,hw⟩
theorem ahead_any (mo:Option Nat) (c m:Int) (t:Tre) (ts:List Tre) (pa:Option Addr) (p:HP) (w:World) (hs:t.size + bSize ts < 268435456) (hm:MAt w mo c m) (h0:0 ≤ c) (h1:c < 1152921504606846976) (h2:0 ≤ m) (h3:m < 1152921504606846976)
  (hh:LAt w ⟨ts⟩ p) (hta:TAt w pa (some t)) (hk1:t.hok) (hk2:t.bin) (hlow:∀ x ∈ ts,t.rank ≤ x.rank) :
  Calls Tryz.prog 116 #[hp p,mAddr mo,.pointer pa] w (Gave mo (c + putTN ts t) (m + putTN ts t) ⟨putT ts t⟩ w):=by
 have hok:bOk ts:=hh.right;have hlen:ts.length < 268435456:=hh.len;obtain ⟨ps,n,hn,hnl,hl,ht⟩:=hh.list;obtain ⟨q,pn⟩:=p;change pn = (n:Int) at hn;subst hn;have b1:=(Box2.new w 108 (.pointer q) (.int .i64 (n:Int))).alloc (.cells #[.pointer none,.int .i64 0] 108) |>.alloc (.cells #[.pointer q,.int .i64 (n:Int)] 106);have b2:=(Box2.new (w.alloc (.cells #[.pointer q,.int .i64 (n:Int)] 108)) 108 (.pointer none) (.int .i64 0)).alloc (.cells #[.pointer q,.int .i64 (n:Int)] 106);have b3:=Box2.new ((w.alloc (.cells #[.pointer q,.int .i64 (n:Int)] 108)).alloc (.cells #[.pointer none,.int .i64 0] 108)) 106 (.pointer q) (.int .i64 (n:Int));simp only [World.size_alloc] at b2 b3;have hb:Below w.heap.size w (((w.alloc (.cells #[.pointer q,.int .i64 (n:Int)] 108)).alloc (.cells #[.pointer none,.int .i64 0] 108)).alloc (.cells #[.pointer q,.int .i64 (n:Int)] 106)):=(((Below.refl _ w).alloc (Nat.le_refl _) _).alloc (by simp) _).alloc (by simp;omega) _
 have A1:Ah mo c m ts t w.heap.size w ts t 0 pa q n ps (((w.alloc (.cells #[.pointer q,.int .i64 (n:Int)] 108)).alloc (.cells #[.pointer none,.int .i64 0] 108)).alloc (.cells #[.pointer q,.int .i64 (n:Int)] 106)) :=
  ⟨hta.stay hb,hl.stay hb,ht.kp (Kpt.below hb),b3,b2,by simpa using (Trk.refl (N:=NodeT) hm).stay hb,rfl,by omega,hlow,hok.rise,rfl⟩
 have HA:=hdz A1;have HN:=hdz (anz h0 (anz h1 (anz h2 (anz h3 (anz hs (anz hlen (anz hok (anz hk1 (anz hk2 hlow)))))))));clear A1 b1 b2 b3 hb hh hl ht hm h0 h1 h2 h3 hs hlen hok hk1 hk2 hlow hta hnl;go_enter Tryz.func116,Tryz.ntmps116
 go_wp2_with fail
 go_step3
 go_wp2_with fail
 go_step3
 go_wp2_with fail
 generalize ((w.alloc (.cells #[.pointer q,.int .i64 (n:Int)] 108)).alloc (.cells #[.pointer none,.int .i64 0] 108)).alloc (.cells #[.pointer q,.int .i64 (n:Int)] 106) = w1 at *;obtain ⟨a,ha⟩:=exq (w.heap.size);rw [← ha] at HA ⊢;have HB:=hdz (Nat.le_of_eq ha.symm);clear ha;go_loopg [2] ts.length (fun k v wr => ∃ (us:List Tre) (u:Tre) (d:Nat) (ua q:Option Addr) (n:Nat) (qs:List (Option Addr)),v = .pointer ua ∧ k = us.length ∧ Ah mo c m ts t a w us u d ua q n qs wr)
 case atStart => exact ⟨ts,t,0,pa,q,n,ps,rfl,rfl,HA.out⟩
 case round =>
  clear HA;obtain ⟨us,u,d,ua,q,n,qs,rfl,hk,hA⟩:=hrel;have o0:=hA.o.c0;have o1:=hA.o.c1;have HA:=hdz hA;have hd:d ≤ putTN ts t:=by have:=hA.putN;omega
  have hd2:=putTN_le ts t;have HD:=hdz (anz hd hd2);clear hd hd2 hA; -- what comes behind the loop
  have fin:∀ (W:World) (q2:Option Addr) (n2:Nat) (qs2:List (Option Addr)),Lt.LL W q2 n2 (ua :: qs) → TsAt W us qs → TAt W ua (some u) → Box2 W (a + 1) 108 (.pointer none) (.int .i64 0) → Trk NodeT mo w (c + d) (m + d) W → putT us u = u :: us → putTN us u = 0 →
    Gave mo (c + putTN ts t) (m + putTN ts t) ⟨putT ts t⟩ w (.returned (hp ⟨q2,(n2:Int)⟩)) ((W.setCell ⟨a + 1,0,none⟩ (.pointer q2)).setCell ⟨a + 1,1,none⟩ (.int .i64 (n2:Int))):=fun W q2 n2 _ hl2 ht2 hu2 hb2 hk2 hp hpN => by
   have e1:putTN ts t = d:=by have:=HA.out.putN;omega
   have hz:=hk2.put2 hb2 heapT_ne (by decide) (by have:=HB.out;omega) (.pointer q2) (.int .i64 (n2:Int));have hg:=putT_good ts t HN.out.2.2.2.2.2.2.2.1 HN.out.2.2.2.2.2.2.2.2.1 HN.out.2.2.2.2.2.2.2.2.2 HN.out.2.2.2.2.2.2.1.hok HN.out.2.2.2.2.2.2.1.bin HN.out.2.2.2.2.2.2.1.rise;refine ⟨⟨q2,(n2:Int)⟩,rfl,?_,e1 ▸ hz.mt,hz.bt⟩;have hput:putT ts t = u :: us:=by rw [← HA.out.put,hp]
   have hsz:bSize (putT ts t) < 268435456:=by rw [putT_size];exact HN.out.2.2.2.2.1
   have hokk:bOk (putT ts t):=⟨hg.1,hg.2.1,hg.2.2.1⟩;rw [hput] at hsz hokk ⊢;exact LAt.of (ll_set2 hl2 hb2 heapT_ne _ _) (TsAt.set2 (ts:=u :: us) ⟨ua,qs,rfl,hu2,ht2⟩ hb2 heapT_ne _ _) hsz hokk
  have FIN:=hdz fin;clear fin
  cases us with
  | nil =>
   obtain rfl:qs = []:=HA.out.tl;obtain rfl:q = none:=HA.out.ll.1;have hn0:n = 0:=HA.out.ll.2.1;have HN0:=hdz hn0;clear hn0;clear hk;go_wp2_with fail
   ((with_reducible refine (Lt.first_nil _ _).mono ?_);rintro e w2 ⟨rfl,hb2⟩);have B2:=hdz (anz (HA.out.o.stay hb2) (anz (HA.out.r.stay hb2) (anz (HA.out.k.stay hb2) (anz (HA.out.tr.stay hb2) (HA.out.ll.stay hb2)))));have p0:=B2.out.1.c0;have p1:=B2.out.1.c1;clear hb2 o0 o1;go_wp2_with fail
   clear p0 p1;((with_reducible refine (Lt.push_l ua B2.out.2.2.2.2 (by have:=HN0.out;omega)).mono ?_);rintro e w3 ⟨q3,n3,rfl,hl3,hb3⟩);have B3:=hdz (anz (B2.out.2.1.stay hb3) (anz (B2.out.2.2.1.stay hb3) (B2.out.2.2.2.1.stay hb3)));have z0:=B3.out.1.z0;have z1:=B3.out.1.z1;have y0:=B3.out.1.c0;have y1:=B3.out.1.c1;have G:=hdz (FIN.out w3 q3 n3 [] hl3 rfl B3.out.2.2 B3.out.1 B3.out.2.1 rfl rfl);have s0:=(B3.out.1.set (.pointer q3) (.int .i64 (n3:Int))).c0;have s1:=(B3.out.1.set (.pointer q3) (.int .i64 (n3:Int))).c1;clear hl3 hb3;go_wp2_with fail
   rw [Exit.noGoto_ret];exact bodyPost_ret (v:=hp ⟨q3,(n3:Int)⟩) (by simp [results,Tryz.results116,go_sem,s0,s1]) rfl G.out
  | cons x us =>
   obtain ⟨xa,qs,rfl,htx,hts⟩:=HA.out.tl;have hsz:=HA.out.size;have hll:=HA.out.ll;have hnq:n = (xa :: qs).length:=hll.2.1;simp only [bSize] at hsz;obtain ⟨rx,hrx⟩:=exq (x.rank);obtain ⟨ru,hru⟩:=exq (u.rank);have hle:ru ≤ rx:=by rw [hru,hrx];exact HA.out.low x (List.mem_cons_self ..)
   have HX:=hdz (anz htx (anz hts (anz hrx (anz hru (anz hsz (anz hnq (anz hk hle)))))));have hcz:=Lt.first_cons q xa qs n wr hll.1;have HC:=hdz hcz;clear htx hts hrx hru hsz hll hnq hcz hk;go_wp2_with fail
   ((with_reducible refine HC.out.mono ?_);rintro e w2 ⟨rfl,hb2⟩);have B2:=hdz (anz (HA.out.o.stay hb2) (anz (HA.out.r.stay hb2) (anz (HA.out.k.stay hb2) (anz (HA.out.tr.stay hb2) (anz (HA.out.ll.stay hb2) (anz (HX.out.1.stay hb2) (HX.out.2.1.kp (Kpt.below hb2))))))));clear hb2 o0 o1 HC;go_wp2_with fail
   ((with_reducible refine (rank_at B2.out.2.2.2.2.2.1 rx HX.out.2.2.1).mono ?_);rintro e w3 ⟨rfl,hw3⟩);subst hw3;go_wp2_with fail
   ((with_reducible refine (rank_at B2.out.2.2.2.1 ru HX.out.2.2.2.1).mono ?_);rintro e w3 ⟨rfl,hw3⟩);subst hw3;by_cases heq:rx = ru
   ·have g1:((rx:Int) == (ru:Int)) = true:=by simp;omega
    have g2:rx = ru:=heq;have p0:=B2.out.1.c0;have p1:=B2.out.1.c1;go_wp2_with fail
    go_region_with (first | (go_at_call 144;((with_reducible refine (Lt.rest_l B4.out.2.2.2.2.1).mono ?_);rintro e w5 ⟨q5,n5,rfl,hl5,hb5⟩;have B5:=hdz (anz (B4.out.1.stay hb5) (anz (B4.out.2.1.stay hb5) (anz (B4.out.2.2.1.stay hb5) (anz (B4.out.2.2.2.1.stay hb5) (anz hl5 (B4.out.2.2.2.2.2.kp (Kpt.below hb5)))))));have x0:=B5.out.1.c0;have x1:=B5.out.1.c1;have z0:=B5.out.1.z0;have z1:=B5.out.1.z1;clear hl5 hb5)) | (go_at_call 143;((with_reducible refine (link_any mo (c + d) (m + d) ua xa (some u) (some x) _ B2.out.2.2.1.drew.mt (by have:=HN.out;omega) (by have:=HN.out;have:=HD.out;omega) (by have:=HN.out;omega) (by have:=HN.out;have:=HD.out;omega) (B2.out.2.2.2.1.stay ((Below.refl _ _).drew)) (B2.out.2.2.2.2.2.1.stay ((Below.refl _ _).drew)) (by have:=HX.out;have:=HN.out;simp only [osize];omega) (by have:=HX.out;have:=HN.out;simp only [osize];omega)).mono ?_);rintro e w4 ⟨p4,rfl,ht4,hm4,hb4⟩;have B4:=hdz (anz (B2.out.1.bt (((Bt.refl mo _).drew).trans hb4) B2.out.2.2.1.mt (by decide)) (anz (B2.out.2.1.bt (((Bt.refl mo _).drew).trans hb4) B2.out.2.2.1.mt (by decide)) (anz (B2.out.2.2.1.drew.turn hm4 hb4 node_ne) (anz ht4 (anz (ll_bt B2.out.2.2.2.2.1 (((Bt.refl mo _).drew).trans hb4) B2.out.2.2.1.mt) (B2.out.2.2.2.2.2.2.bt (((Bt.refl mo _).drew).trans hb4) B2.out.2.2.1.mt))))));have y0:=B4.out.1.c0;have y1:=B4.out.1.c1;clear ht4 hm4 hb4)))
    all_goals
     have X:=hdz (anz (B5.out.1.set (.pointer q5) (.int .i64 (n5:Int))) (anz (B5.out.2.1.aside (g:=a + 2) (by omega) (.pointer q5) (.int .i64 (n5:Int))) (anz (B5.out.2.2.1.put2 B5.out.1 listT_ne (by decide) (by have:=HB.out;omega) (.pointer q5) (.int .i64 (n5:Int))) (anz (B5.out.2.2.2.1.kp (Kp.set2 B5.out.1 listT_ne (.pointer q5) (.int .i64 (n5:Int))).tree) (anz (ll_set2 B5.out.2.2.2.2.1 B5.out.1 listT_ne (.pointer q5) (.int .i64 (n5:Int))) (B5.out.2.2.2.2.2.set2 B5.out.1 listT_ne (.pointer q5) (.int .i64 (n5:Int))))))));go_wp2_with fail
     go_roundg us.length
     case measure => have:=HX.out.2.2.2.2.2.2.1;simp only [List.length_cons] at this;omega
     case rel =>
      have hr:=HX.out.2.2.1;have hr2:=HX.out.2.2.2.1;have hlt:¬ u.rank < x.rank:=by omega
      have hlr:=lnk_rank (a:=u) (b:=x) (by omega);have hp:=List.pairwise_cons.1 HA.out.rise;refine ⟨us,lnk u x,d + 1,p4,q5,n5,qs,rfl,rfl,⟨X.out.2.2.2.1,X.out.2.2.2.2.1,X.out.2.2.2.2.2,X.out.1,X.out.2.1,?_,?_,?_,?_,hp.2,?_⟩⟩
      ·have:=X.out.2.2.1;simp only [lnkN] at this;have e1:c + ((d + 1:Nat):Int) = c + (d:Int) + ((1:Nat):Int):=by omega
       have e2:m + ((d + 1:Nat):Int) = m + (d:Int) + ((1:Nat):Int):=by omega
       rw [e1,e2];exact this
      ·rw [← HA.out.put,putT,if_neg hlt]
      ·have:=HA.out.putN;rw [putTN,if_neg hlt] at this;omega
      ·intro y hy;rw [hlr];have:=hp.1 y hy;omega
      ·rw [lnk_size];have:=HX.out.2.2.2.2.1;omega
   ·have g1:((rx:Int) == (ru:Int)) = false:=by simp;omega
    have g2:¬ rx = ru:=heq;have p0:=B2.out.1.c0;have p1:=B2.out.1.c1;go_wp2_with fail
    clear p0 p1;((with_reducible refine (Lt.push_l ua B2.out.2.2.2.2.1 (by have:=B2.out.2.2.2.2.2.2.length;have:=HX.out;have:=HN.out;have h8:=Lt.LL.len B2.out.2.2.2.2.1;have h9:=len_bSize us;simp only [List.length_cons] at *;omega)).mono ?_);rintro e w3 ⟨q3,n3,rfl,hl3,hb3⟩);have B3:=hdz (anz (B2.out.2.1.stay hb3) (anz (B2.out.2.2.1.stay hb3) (anz (B2.out.2.2.2.1.stay hb3) (anz (B2.out.2.2.2.2.2.1.stay hb3) (B2.out.2.2.2.2.2.2.kp (Kpt.below hb3))))));have z0:=B3.out.1.z0;have z1:=B3.out.1.z1;have y0:=B3.out.1.c0;have y1:=B3.out.1.c1;have hlt:u.rank < x.rank:=by have:=HX.out;omega
    have G:=hdz (FIN.out w3 q3 n3 [] hl3 ⟨xa,qs,rfl,B3.out.2.2.2.1,B3.out.2.2.2.2⟩ B3.out.2.2.1 B3.out.1 B3.out.2.1 (by rw [putT,if_pos hlt]) (by rw [putTN,if_pos hlt]));have s0:=(B3.out.1.set (.pointer q3) (.int .i64 (n3:Int))).c0;have s1:=(B3.out.1.set (.pointer q3) (.int .i64 (n3:Int))).c1;clear hl3 hb3 hlt;go_wp2_with fail
    rw [Exit.noGoto_ret];exact bodyPost_ret (v:=hp ⟨q3,(n3:Int)⟩) (by simp [results,Tryz.results116,go_sem,s0,s1]) rfl G.out
end Go.Proofs.YtmeodbjlmjpnbaaGreat.Bi.Hp
namespace Go.Proofs.YtmeodbjlmjpnbaaGreat.Bi.Hp
open Go.Sort Go.RowKit
theorem wp_after {P:Program} {c:Code} {a:Act} {w:World} {Q:Exit → Act → World → Prop} (R:Act → Act → World → Prop) (h1:c.wp P (fun e a' w' => e = .normal ∧ R a a' w') a w) (h2:∀ a' w',R a a' w' → Q .normal a' w'):c.wp P Q a w :=
 Code.wp_mono (fun e a' w' h => by obtain ⟨rfl,hr⟩:=h;exact h2 a' w' hr) h1
theorem field_h:∀ (x:Option Addr) (y:Int) (w:World),(Instr.field 108 (.agg #[.pointer x,.int .i64 y]) 0).run Tryz.prog w = .ok (.agg #[.pointer x,.int .i64 y]) w:=fun _ _ _ => by kernel_rfl
theorem first_h {t:Tre} {ts:List Tre} {p:HP} {w:World} (h:LAt w ⟨t :: ts⟩ p):∃ a,TAt w a (some t) ∧ Calls Tryz.prog 141 #[hp p] w fun e w' => e = .returned (.tuple #[.pointer a,.bool true]) ∧ Below w.heap.size w w':=by
 obtain ⟨ps,h1,⟨a,ps',rfl,h2,h2'⟩,h3,h4⟩:=h;exact ⟨a,h2,Lt.first_cons p.q a ps' p.n w h1⟩
theorem first_0 {p:HP} {w:World} (h:LAt w .nil p):Calls Tryz.prog 141 #[hp p] w fun e w' => e = .returned (.tuple #[.pointer none,.bool false]) ∧ Below w.heap.size w w':=by
 obtain rfl:=h.no;exact Lt.first_nil 0 w
theorem push_h {t:Tre} {ts:List Tre} {p:HP} {a:Option Addr} {w:World} (h:LAt w ⟨ts⟩ p) (ht:TAt w a (some t)) (hs:t.size + bSize ts < 268435456) (hk:bOk (t :: ts)):Calls Tryz.prog 145 #[hp p,.pointer a] w fun e w' => ∃ p':HP,e = .returned (.agg #[.pointer p'.q,.int .i64 p'.n]) ∧ LAt w' ⟨t :: ts⟩ p' ∧ Below w.heap.size w w':=by
 have hlen:=h.len;obtain ⟨ps,n,hn,hnl,hl,hts⟩:=h.list;change n = ts.length at hnl;change ts.length < _ at hlen;obtain ⟨q,pn⟩:=p;change pn = (n:Int) at hn;subst hn;refine (Lt.push_l a hl (by omega)).mono fun e w' ⟨q',n',he,hl',hb⟩ => ⟨⟨q',(n':Int)⟩,he,?_,hb⟩;exact LAt.of (ts:=t :: ts) hl' ⟨a,ps,rfl,ht.stay hb,hts.kp (Kpt.below hb)⟩ hs hk
structure Fm (W:World) (a:Nat) (p q:HP):Prop where
 h:Box2 W a 108 (.pointer p.q) (.int .i64 p.n)
 o:Box2 W (a + 1) 108 (.pointer q.q) (.int .i64 q.n)
 r:Box2 W (a + 2) 108 (.pointer none) (.int .i64 0)
section
variable {W W':World} {a:Nat} {p q:HP} {mo:Option Nat} {c m:Int}
theorem Fm.new (w:World) (p q:HP):Fm (((w.alloc (.cells #[.pointer p.q,.int .i64 p.n] 108)).alloc (.cells #[.pointer q.q,.int .i64 q.n] 108)).alloc (.cells #[.pointer none,.int .i64 0] 108)) w.heap.size p q:=by
 refine ⟨((Box2.new w 108 _ _).alloc _).alloc _,?_,?_⟩
 ·have:=(Box2.new (w.alloc (.cells #[.pointer p.q,.int .i64 p.n] 108)) 108 (.pointer q.q) (.int .i64 q.n)).alloc (.cells #[.pointer none,.int .i64 0] 108);simpa only [World.size_alloc] using this
 ·have:=Box2.new ((w.alloc (.cells #[.pointer p.q,.int .i64 p.n] 108)).alloc (.cells #[.pointer q.q,.int .i64 q.n] 108)) 108 (.pointer none) (.int .i64 0);simpa only [World.size_alloc] using this
theorem Fm.stay (h:Fm W a p q) (hb:Below W.heap.size W W'):Fm W' a p q:=⟨h.h.stay hb,h.o.stay hb,h.r.stay hb⟩
theorem Fm.bt (h:Fm W a p q) (hb:Bt mo W W') (hm:MAt W mo c m):Fm W' a p q:=⟨h.h.bt hb hm (by decide),h.o.bt hb hm (by decide),h.r.bt hb hm (by decide)⟩
end
theorem new3_below (w:World) (x y z:Obj):Below w.heap.size w (((w.alloc x).alloc y).alloc z):=(((Below.refl _ w).alloc (Nat.le_refl _) _).alloc (by simp) _).alloc (by simp;omega) _
def MeldsTo (mo:Option Nat) (la bs:List Tre):Prop:=∀ (c m:Int) (p q:HP) (w:World),bSize la + bSize bs < 268435456 → MAt w mo c m → 0 ≤ c → c < 576460752303423488 → 0 ≤ m → m < 576460752303423488 → LAt w ⟨la⟩ p → LAt w ⟨bs⟩ q →
 Calls Tryz.prog 357 #[hp p,mAddr mo,hp q] w (Gave mo (c + bmeldN la bs) (m + bmeldN la bs) ⟨bmeld la bs⟩ w)
theorem meld_first (mo:Option Nat) (bs:List Tre):MeldsTo mo ([]) (bs):=by
 intro c m p q w hs hm h0 h1 h2 h3 ha hb;have HL:=hdz (anz ha hb);have HF:=hdz (Fm.new w p q);have KK:=hdz ((Trk.refl (N:=NodeT) hm).stay (new3_below w (.cells #[.pointer p.q,.int .i64 p.n] 108) (.cells #[.pointer q.q,.int .i64 q.n] 108) (.cells #[.pointer none,.int .i64 0] 108)));have HN:=hdz (anz hs (anz h0 (anz h1 (anz h2 h3))));clear hs h0 h1 h2 h3 hm ha hb;go_enter Tryz.func357,Tryz.ntmps357
 go_wp2_with fail
 generalize ((w.alloc (.cells #[.pointer p.q,.int .i64 p.n] 108)).alloc (.cells #[.pointer q.q,.int .i64 q.n] 108)).alloc (.cells #[.pointer none,.int .i64 0] 108) = w1 at *;obtain ⟨a,ha⟩:=exq (w.heap.size);rw [← ha] at HF ⊢;have HA:=hdz ha;clear ha;((with_reducible refine (first_0 (HL.out.1.kps KK.out.kp KK.out.bt.size)).mono ?_);rintro e w2 ⟨rfl,hb2⟩);have F2:=hdz (HF.out.stay hb2);have K2:=hdz (KK.out.stay hb2);have c0:=F2.out.o.c0;have c1:=F2.out.o.c1;have z0:=F2.out.r.z0;have z1:=F2.out.r.z1;have r0:=F2.out.r.c0;have r1:=F2.out.r.c1;have s0:=(F2.out.r.set (.pointer q.q) (.int .i64 q.n)).c0;have s1:=(F2.out.r.set (.pointer q.q) (.int .i64 q.n)).c1;clear hb2 HF KK;go_wp2_with fail
 have k:=K2.out.put2 F2.out.r heapT_ne (by decide) (by have:=HA.out;omega) (.pointer q.q) (.int .i64 q.n);exact bodyPost_ret (v:=hp q) (by simp [results,Tryz.results357,go_sem,s0,s1]) rfl ⟨q,rfl,by rw [bmeld_nil];exact HL.out.2.kps k.kp k.bt.size,by rw [bmeldN_nil];simpa using k.mt,k.bt⟩
theorem meld_second (mo:Option Nat) (f:Tre) (la:List Tre):MeldsTo mo (f :: la) ([]):=by
 intro c m p q w hs hm h0 h1 h2 h3 ha hb;have HL:=hdz (anz ha hb);have HF:=hdz (Fm.new w p q);have KK:=hdz ((Trk.refl (N:=NodeT) hm).stay (new3_below w (.cells #[.pointer p.q,.int .i64 p.n] 108) (.cells #[.pointer q.q,.int .i64 q.n] 108) (.cells #[.pointer none,.int .i64 0] 108)));have HN:=hdz (anz hs (anz h0 (anz h1 (anz h2 h3))));clear hs h0 h1 h2 h3 hm ha hb;go_enter Tryz.func357,Tryz.ntmps357
 go_wp2_with fail
 generalize ((w.alloc (.cells #[.pointer p.q,.int .i64 p.n] 108)).alloc (.cells #[.pointer q.q,.int .i64 q.n] 108)).alloc (.cells #[.pointer none,.int .i64 0] 108) = w1 at *;obtain ⟨a,ha⟩:=exq (w.heap.size);rw [← ha] at HF ⊢;have HA:=hdz ha;clear ha;obtain ⟨fa,hfa,hc⟩:=first_h (HL.out.1.kps KK.out.kp KK.out.bt.size);have HC:=hdz hc;have TF:=hdz hfa;clear hc hfa;((with_reducible refine HC.out.mono ?_);rintro e w2 ⟨rfl,hb2⟩);have F2:=hdz (HF.out.stay hb2);have K2:=hdz (KK.out.stay hb2);have T2:=hdz (TF.out.stay hb2);have c0:=F2.out.o.c0;have c1:=F2.out.o.c1;clear hb2 HF KK HC TF;go_wp2_with fail
 clear c0 c1;((with_reducible refine (first_0 (HL.out.2.kps K2.out.kp K2.out.bt.size)).mono ?_);rintro e w3 ⟨rfl,hb3⟩);have F3:=hdz (F2.out.stay hb3);have K3:=hdz (K2.out.stay hb3);have c0:=F3.out.h.c0;have c1:=F3.out.h.c1;have z0:=F3.out.r.z0;have z1:=F3.out.r.z1;have r0:=F3.out.r.c0;have r1:=F3.out.r.c1;have s0:=(F3.out.r.set (.pointer p.q) (.int .i64 p.n)).c0;have s1:=(F3.out.r.set (.pointer p.q) (.int .i64 p.n)).c1;clear hb3 F2 K2 T2;go_wp2_with fail
 have k:=K3.out.put2 F3.out.r heapT_ne (by decide) (by have:=HA.out;omega) (.pointer p.q) (.int .i64 p.n);exact bodyPost_ret (v:=hp p) (by simp [results,Tryz.results357,go_sem,s0,s1]) rfl ⟨p,rfl,by rw [bmeld_right];exact HL.out.1.kps k.kp k.bt.size,by rw [bmeldN_right];simpa using k.mt,k.bt⟩
theorem meld_lt (mo:Option Nat) (f g:Tre) (la bs:List Tre) (hlt:f.rank < g.rank) (IH:MeldsTo mo la (g :: bs)):MeldsTo mo (f :: la) (g :: bs):=by
 intro c m p q w hs hm h0 h1 h2 h3 ha hb;have HL:=hdz (anz ha hb);have HF:=hdz (Fm.new w p q);have KK:=hdz ((Trk.refl (N:=NodeT) hm).stay (new3_below w (.cells #[.pointer p.q,.int .i64 p.n] 108) (.cells #[.pointer q.q,.int .i64 q.n] 108) (.cells #[.pointer none,.int .i64 0] 108)));unfold MeldsTo at IH;have HI:=hdz IH;have HB1:=hdz (bmeld_good (f :: la) (g :: bs) ha.right.hok hb.right.hok ha.right.bin hb.right.bin ha.right.rise hb.right.rise);have HE:=hdz (anz (bmeld_lt hlt:bmeld (f :: la) (g :: bs) = _) (bmeldN_lt hlt:bmeldN (f :: la) (g :: bs) = _));have hsz:=bmeld_size (f :: la) (g :: bs);rw [HE.out.1] at hsz;simp only [bSize] at hs hsz;have HZ:=hdz hsz;clear hsz IH;have HN:=hdz (anz hs (anz h0 (anz h1 (anz h2 h3))));clear hs h0 h1 h2 h3 hm ha hb;go_enter Tryz.func357,Tryz.ntmps357
 go_wp2_with fail
 generalize ((w.alloc (.cells #[.pointer p.q,.int .i64 p.n] 108)).alloc (.cells #[.pointer q.q,.int .i64 q.n] 108)).alloc (.cells #[.pointer none,.int .i64 0] 108) = w1 at *;obtain ⟨a,ha⟩:=exq (w.heap.size);rw [← ha] at HF ⊢;have HA:=hdz ha;clear ha;obtain ⟨fa,hfa,hc⟩:=first_h (HL.out.1.kps KK.out.kp KK.out.bt.size);have HC:=hdz hc;have TF:=hdz hfa;clear hc hfa;((with_reducible refine HC.out.mono ?_);rintro e w2 ⟨rfl,hb2⟩);have F2:=hdz (HF.out.stay hb2);have K2:=hdz (KK.out.stay hb2);have T2:=hdz (TF.out.stay hb2);have c0:=F2.out.o.c0;have c1:=F2.out.o.c1;clear hb2 HF KK HC TF;go_wp2_with fail
 clear c0 c1;obtain ⟨ga,hga,hc⟩:=first_h (HL.out.2.kps K2.out.kp K2.out.bt.size);have HC:=hdz hc;have TG:=hdz hga;clear hc hga;((with_reducible refine HC.out.mono ?_);rintro e w3 ⟨rfl,hb3⟩);have F3:=hdz (F2.out.stay hb3);have K3:=hdz (K2.out.stay hb3);have T3:=hdz (anz (T2.out.stay hb3) (TG.out.stay hb3));clear hb3 F2 K2 T2 HC TG;obtain ⟨rf,hrf⟩:=exq (f.rank);obtain ⟨rg,hrg⟩:=exq (g.rank);have HRK:=hdz (anz hrf hrg);rw [← hrf,← hrg] at hlt;clear hrf hrg;go_wp2_with fail
 ((with_reducible refine (rank_at T3.out.1 rf HRK.out.1).mono ?_);rintro e w4 ⟨rfl,hw4⟩);subst hw4;go_wp2_with fail
 have d0:decide ((rf:Int) < (rg:Int)) = true:=by first | omega | (simp;omega) | rfl
 have d1:decide (rf < rg) = true:=by first | omega | (simp;omega) | rfl
 have d2:(rf:Int) < (rg:Int):=by first | omega | (simp;omega) | rfl
 have d3:rf < rg:=by first | omega | (simp;omega) | rfl
 ((with_reducible refine (rank_at T3.out.2 rg HRK.out.2).mono ?_);rintro e w4 ⟨rfl,hw4⟩);subst hw4;go_wp2_with fail
 have s3_0:=F3.out.h.c0;have s3_1:=F3.out.h.c1;have s3_2:=F3.out.o.c0;have s3_3:=F3.out.o.c1;have TT:=hdz (T3.out.1);have hfd:=field_h;have n5:¬ a = a + 1 + 1:=by omega
 have n6:¬ a + 1 + 1 = a:=by omega
 go_region_held3 (fun w' => w'.cell? ⟨a,0,none⟩ = some (.pointer p.q) ∧ w'.cell? ⟨a,1,none⟩ = some (.int .i64 p.n) ∧ w'.cell? ⟨a + 1,0,none⟩ = some (.pointer q.q) ∧ w'.cell? ⟨a + 1,1,none⟩ = some (.int .i64 q.n)) (go_keep)
  (first | (go_at_call 145;((with_reducible refine (push_h L5.out (TK.out) (by have:=HN.out;have:=HZ.out;omega) (HE.out.1 ▸ ⟨HB1.out.1,HB1.out.2.1,HB1.out.2.2.1⟩)).mono ?_);rintro e w6 ⟨p6,rfl,ht6,hb6⟩;have F6:=hdz (F5.out.stay hb6);have K6:=hdz (K5.out.stay hb6);have L6:=hdz ht6;have s6_0:=F6.out.h.c0;have s6_1:=F6.out.h.c1;have s6_2:=F6.out.o.c0;have s6_3:=F6.out.o.c1;have z0:=F6.out.r.z0;have z1:=F6.out.r.z1;have r0:=F6.out.r.c0;have r1:=F6.out.r.c1;clear ht6 hb6)) | (go_at_call 361;((with_reducible refine (rest_any f la p _ ((HL.out.1.kps K3.out.drew.kp K3.out.drew.bt.size))).mono ?_);rintro e w4 ⟨p4,rfl,ht4,hb4⟩;have F4:=hdz ((F3.out.stay ((Below.refl _ _).drew)).stay hb4);have K4:=hdz (K3.out.drew.stay hb4);have L4:=hdz ht4;have TT4:=hdz ((TT.out.stay ((Below.refl _ _).drew)).stay hb4);have s4_0:=F4.out.h.c0;have s4_1:=F4.out.h.c1;have s4_2:=F4.out.o.c0;have s4_3:=F4.out.o.c1;clear ht4 hb4)) | (go_at_call 357;((with_reducible refine (HI.out c m p4 q _ (by have:=HN.out;(try simp only [bSize]);omega) K4.out.mt HN.out.2.1 HN.out.2.2.1 HN.out.2.2.2.1 HN.out.2.2.2.2 L4.out (HL.out.2.kps K4.out.kp K4.out.bt.size)).mono ?_);rintro e w5 ⟨p5,rfl,ht5,hm5,hb5⟩;have F5:=hdz (F4.out.bt hb5 K4.out.mt);have K5:=hdz (K4.out.turn hm5 hb5 node_ne);have L5:=hdz ht5;have TK:=hdz ((TT4.out).kp (Kp.tree (Kp.bt hb5 K4.out.mt)));have s5_0:=F5.out.h.c0;have s5_1:=F5.out.h.c1;have s5_2:=F5.out.o.c0;have s5_3:=F5.out.o.c1;clear ht5 hm5 hb5)))
 go_wp2_with fail
 have s0:=(F6.out.r.set (.pointer p6.q) (.int .i64 p6.n)).c0;have s1:=(F6.out.r.set (.pointer p6.q) (.int .i64 p6.n)).c1;have k:=K6.out.put2 F6.out.r heapT_ne (by decide) (by have:=HA.out;omega) (.pointer p6.q) (.int .i64 p6.n);exact bodyPost_ret (v:=hp p6) (by simp [results,Tryz.results357,go_sem,s0,s1]) rfl ⟨p6,rfl,by rw [HE.out.1];exact L6.out.set2 F6.out.r heapT_ne _ _,by rw [HE.out.2];exact k.mt,k.bt⟩
theorem meld_gt (mo:Option Nat) (f g:Tre) (la bs:List Tre) (hlt:g.rank < f.rank) (IH:MeldsTo mo (f :: la) bs):MeldsTo mo (f :: la) (g :: bs):=by
 intro c m p q w hs hm h0 h1 h2 h3 ha hb;have HL:=hdz (anz ha hb);have HF:=hdz (Fm.new w p q);have KK:=hdz ((Trk.refl (N:=NodeT) hm).stay (new3_below w (.cells #[.pointer p.q,.int .i64 p.n] 108) (.cells #[.pointer q.q,.int .i64 q.n] 108) (.cells #[.pointer none,.int .i64 0] 108)));unfold MeldsTo at IH;have HI:=hdz IH;have HB1:=hdz (bmeld_good (f :: la) (g :: bs) ha.right.hok hb.right.hok ha.right.bin hb.right.bin ha.right.rise hb.right.rise);have HE:=hdz (anz (bmeld_gt hlt:bmeld (f :: la) (g :: bs) = _) (bmeldN_gt hlt:bmeldN (f :: la) (g :: bs) = _));have hsz:=bmeld_size (f :: la) (g :: bs);rw [HE.out.1] at hsz;simp only [bSize] at hs hsz;have HZ:=hdz hsz;clear hsz IH;have HN:=hdz (anz hs (anz h0 (anz h1 (anz h2 h3))));clear hs h0 h1 h2 h3 hm ha hb;go_enter Tryz.func357,Tryz.ntmps357
 go_wp2_with fail
 generalize ((w.alloc (.cells #[.pointer p.q,.int .i64 p.n] 108)).alloc (.cells #[.pointer q.q,.int .i64 q.n] 108)).alloc (.cells #[.pointer none,.int .i64 0] 108) = w1 at *;obtain ⟨a,ha⟩:=exq (w.heap.size);rw [← ha] at HF ⊢;have HA:=hdz ha;clear ha;obtain ⟨fa,hfa,hc⟩:=first_h (HL.out.1.kps KK.out.kp KK.out.bt.size);have HC:=hdz hc;have TF:=hdz hfa;clear hc hfa;((with_reducible refine HC.out.mono ?_);rintro e w2 ⟨rfl,hb2⟩);have F2:=hdz (HF.out.stay hb2);have K2:=hdz (KK.out.stay hb2);have T2:=hdz (TF.out.stay hb2);have c0:=F2.out.o.c0;have c1:=F2.out.o.c1;clear hb2 HF KK HC TF;go_wp2_with fail
 clear c0 c1;obtain ⟨ga,hga,hc⟩:=first_h (HL.out.2.kps K2.out.kp K2.out.bt.size);have HC:=hdz hc;have TG:=hdz hga;clear hc hga;((with_reducible refine HC.out.mono ?_);rintro e w3 ⟨rfl,hb3⟩);have F3:=hdz (F2.out.stay hb3);have K3:=hdz (K2.out.stay hb3);have T3:=hdz (anz (T2.out.stay hb3) (TG.out.stay hb3));clear hb3 F2 K2 T2 HC TG;obtain ⟨rf,hrf⟩:=exq (f.rank);obtain ⟨rg,hrg⟩:=exq (g.rank);have HRK:=hdz (anz hrf hrg);rw [← hrf,← hrg] at hlt;clear hrf hrg;go_wp2_with fail
 ((with_reducible refine (rank_at T3.out.1 rf HRK.out.1).mono ?_);rintro e w4 ⟨rfl,hw4⟩);subst hw4;go_wp2_with fail
 have d0:decide ((rf:Int) < (rg:Int)) = false:=by first | omega | (simp;omega) | rfl
 have d1:decide (rf < rg) = false:=by first | omega | (simp;omega) | rfl
 have d2:¬ (rf:Int) < (rg:Int):=by first | omega | (simp;omega) | rfl
 have d3:¬ rf < rg:=by first | omega | (simp;omega) | rfl
 ((with_reducible refine (rank_at T3.out.2 rg HRK.out.2).mono ?_);rintro e w4 ⟨rfl,hw4⟩);subst hw4;go_wp2_with fail
 clear d0 d1 d2 d3;((with_reducible refine (rank_at T3.out.2 rg HRK.out.2).mono ?_);rintro e w4 ⟨rfl,hw4⟩);subst hw4;go_wp2_with fail
 have d0:decide ((rg:Int) < (rf:Int)) = true:=by first | omega | (simp;omega) | rfl
 have d1:decide (rg < rf) = true:=by first | omega | (simp;omega) | rfl
 have d2:(rg:Int) < (rf:Int):=by first | omega | (simp;omega) | rfl
 have d3:rg < rf:=by first | omega | (simp;omega) | rfl
 ((with_reducible refine (rank_at T3.out.1 rf HRK.out.1).mono ?_);rintro e w4 ⟨rfl,hw4⟩);subst hw4;go_wp2_with fail
 have s3_0:=F3.out.h.c0;have s3_1:=F3.out.h.c1;have s3_2:=F3.out.o.c0;have s3_3:=F3.out.o.c1;have TT:=hdz (T3.out.2);have hfd:=field_h;have n5:¬ a = a + 1 + 1:=by omega
 have n6:¬ a + 1 + 1 = a:=by omega
 go_region_held3 (fun w' => w'.cell? ⟨a,0,none⟩ = some (.pointer p.q) ∧ w'.cell? ⟨a,1,none⟩ = some (.int .i64 p.n) ∧ w'.cell? ⟨a + 1,0,none⟩ = some (.pointer q.q) ∧ w'.cell? ⟨a + 1,1,none⟩ = some (.int .i64 q.n)) (go_keep)
  (first | (go_at_call 145;((with_reducible refine (push_h L5.out (TK.out) (by have:=HN.out;have:=HZ.out;omega) (HE.out.1 ▸ ⟨HB1.out.1,HB1.out.2.1,HB1.out.2.2.1⟩)).mono ?_);rintro e w6 ⟨p6,rfl,ht6,hb6⟩;have F6:=hdz (F5.out.stay hb6);have K6:=hdz (K5.out.stay hb6);have L6:=hdz ht6;have s6_0:=F6.out.h.c0;have s6_1:=F6.out.h.c1;have s6_2:=F6.out.o.c0;have s6_3:=F6.out.o.c1;have z0:=F6.out.r.z0;have z1:=F6.out.r.z1;have r0:=F6.out.r.c0;have r1:=F6.out.r.c1;clear ht6 hb6)) | (go_at_call 361;((with_reducible refine (rest_any g bs q _ ((HL.out.2.kps K3.out.drew.kp K3.out.drew.bt.size))).mono ?_);rintro e w4 ⟨p4,rfl,ht4,hb4⟩;have F4:=hdz ((F3.out.stay ((Below.refl _ _).drew)).stay hb4);have K4:=hdz (K3.out.drew.stay hb4);have L4:=hdz ht4;have TT4:=hdz ((TT.out.stay ((Below.refl _ _).drew)).stay hb4);have s4_0:=F4.out.h.c0;have s4_1:=F4.out.h.c1;have s4_2:=F4.out.o.c0;have s4_3:=F4.out.o.c1;clear ht4 hb4)) | (go_at_call 357;((with_reducible refine (HI.out c m p p4 _ (by have:=HN.out;(try simp only [bSize]);omega) K4.out.mt HN.out.2.1 HN.out.2.2.1 HN.out.2.2.2.1 HN.out.2.2.2.2 (HL.out.1.kps K4.out.kp K4.out.bt.size) L4.out).mono ?_);rintro e w5 ⟨p5,rfl,ht5,hm5,hb5⟩;have F5:=hdz (F4.out.bt hb5 K4.out.mt);have K5:=hdz (K4.out.turn hm5 hb5 node_ne);have L5:=hdz ht5;have TK:=hdz ((TT4.out).kp (Kp.tree (Kp.bt hb5 K4.out.mt)));have s5_0:=F5.out.h.c0;have s5_1:=F5.out.h.c1;have s5_2:=F5.out.o.c0;have s5_3:=F5.out.o.c1;clear ht5 hm5 hb5)))
 go_wp2_with fail
 have s0:=(F6.out.r.set (.pointer p6.q) (.int .i64 p6.n)).c0;have s1:=(F6.out.r.set (.pointer p6.q) (.int .i64 p6.n)).c1;have k:=K6.out.put2 F6.out.r heapT_ne (by decide) (by have:=HA.out;omega) (.pointer p6.q) (.int .i64 p6.n);exact bodyPost_ret (v:=hp p6) (by simp [results,Tryz.results357,go_sem,s0,s1]) rfl ⟨p6,rfl,by rw [HE.out.1];exact L6.out.set2 F6.out.r heapT_ne _ _,by rw [HE.out.2];exact k.mt,k.bt⟩
theorem meld_eq (mo:Option Nat) (f g:Tre) (la bs:List Tre) (hlt:f.rank = g.rank) (IH:MeldsTo mo la bs):MeldsTo mo (f :: la) (g :: bs):=by
 intro c m p q w hs hm h0 h1 h2 h3 ha hb;have HL:=hdz (anz ha hb);have HF:=hdz (Fm.new w p q);have KK:=hdz ((Trk.refl (N:=NodeT) hm).stay (new3_below w (.cells #[.pointer p.q,.int .i64 p.n] 108) (.cells #[.pointer q.q,.int .i64 q.n] 108) (.cells #[.pointer none,.int .i64 0] 108)));unfold MeldsTo at IH;have HI:=hdz IH;have HEQ:=hdz hlt;have HB1:=hdz (anz (show bOk (f :: la) from ha.right) (show bOk (g :: bs) from hb.right));have HE:=hdz (anz (bmeld_eq hlt:bmeld (f :: la) (g :: bs) = _) (bmeldN_eq hlt:bmeldN (f :: la) (g :: bs) = _));have hsz:=bmeld_size la bs;have hln:=bmeld_len la bs;have hl1:=len_bSize la;have hl2:=len_bSize bs;simp only [bSize] at hs;have HZ:=hdz (show bSize (bmeld la bs) = bSize la + bSize bs ∧ bmeldN la bs < 268435456 from ⟨hsz,by simp only [Tre.size] at hs;omega⟩);clear hsz IH hln hl1 hl2;have HN:=hdz (anz hs (anz h0 (anz h1 (anz h2 h3))));clear hs h0 h1 h2 h3 hm ha hb;go_enter Tryz.func357,Tryz.ntmps357
 go_wp2_with fail
 generalize ((w.alloc (.cells #[.pointer p.q,.int .i64 p.n] 108)).alloc (.cells #[.pointer q.q,.int .i64 q.n] 108)).alloc (.cells #[.pointer none,.int .i64 0] 108) = w1 at *;obtain ⟨a,ha⟩:=exq (w.heap.size);rw [← ha] at HF ⊢;have HA:=hdz ha;clear ha;obtain ⟨fa,hfa,hc⟩:=first_h (HL.out.1.kps KK.out.kp KK.out.bt.size);have HC:=hdz hc;have TF:=hdz hfa;clear hc hfa;((with_reducible refine HC.out.mono ?_);rintro e w2 ⟨rfl,hb2⟩);have F2:=hdz (HF.out.stay hb2);have K2:=hdz (KK.out.stay hb2);have T2:=hdz (TF.out.stay hb2);have c0:=F2.out.o.c0;have c1:=F2.out.o.c1;clear hb2 HF KK HC TF;go_wp2_with fail
 clear c0 c1;obtain ⟨ga,hga,hc⟩:=first_h (HL.out.2.kps K2.out.kp K2.out.bt.size);have HC:=hdz hc;have TG:=hdz hga;clear hc hga;((with_reducible refine HC.out.mono ?_);rintro e w3 ⟨rfl,hb3⟩);have F3:=hdz (F2.out.stay hb3);have K3:=hdz (K2.out.stay hb3);have T3:=hdz (anz (T2.out.stay hb3) (TG.out.stay hb3));clear hb3 F2 K2 T2 HC TG;obtain ⟨rf,hrf⟩:=exq (f.rank);obtain ⟨rg,hrg⟩:=exq (g.rank);have HRK:=hdz (anz hrf hrg);rw [← hrf,← hrg] at hlt;clear hrf hrg;go_wp2_with fail
 ((with_reducible refine (rank_at T3.out.1 rf HRK.out.1).mono ?_);rintro e w4 ⟨rfl,hw4⟩);subst hw4;go_wp2_with fail
 have d0:decide ((rf:Int) < (rg:Int)) = false:=by first | omega | (simp;omega) | rfl
 have d1:decide (rf < rg) = false:=by first | omega | (simp;omega) | rfl
 have d2:¬ (rf:Int) < (rg:Int):=by first | omega | (simp;omega) | rfl
 have d3:¬ rf < rg:=by first | omega | (simp;omega) | rfl
 ((with_reducible refine (rank_at T3.out.2 rg HRK.out.2).mono ?_);rintro e w4 ⟨rfl,hw4⟩);subst hw4;go_wp2_with fail
 clear d0 d1 d2 d3;((with_reducible refine (rank_at T3.out.2 rg HRK.out.2).mono ?_);rintro e w4 ⟨rfl,hw4⟩);subst hw4;go_wp2_with fail
 have d0:decide ((rg:Int) < (rf:Int)) = false:=by first | omega | (simp;omega) | rfl
 have d1:decide (rg < rf) = false:=by first | omega | (simp;omega) | rfl
 have d2:¬ (rg:Int) < (rf:Int):=by first | omega | (simp;omega) | rfl
 have d3:¬ rg < rf:=by first | omega | (simp;omega) | rfl
 ((with_reducible refine (rank_at T3.out.1 rf HRK.out.1).mono ?_);rintro e w4 ⟨rfl,hw4⟩);subst hw4;go_wp2_with fail
 clear d0 d1 d2 d3 hlt;refine wp_after (R:=fun x x' w' => ∃ (u59 u60 u61 u62 u63 u64:Value) (v:Nat) (p5:HP),x' = (((((((x.put (some 59) u59).put (some 60) u60).put (some 61) u61).put (some 62) u62).put (some 63) u63).put (some 64) u64).put (some 10) (.pointer (some ⟨v,0,none⟩))) ∧ Bt mo w4 w' ∧ MAt w' mo (c + (bmeldN la bs:Nat)) (m + (bmeldN la bs:Nat)) ∧ w4.heap.size ≤ v ∧ Box2 w' v 108 (.pointer p5.q) (.int .i64 p5.n) ∧ LAt w' ⟨bmeld la bs⟩ p5) ?_ ?_
 ·have HS:=hdz (fun (w':World) (hz:Bt mo w4 w') => (show w'.cell? ⟨a,0,none⟩ = some (.pointer p.q) ∧ w'.cell? ⟨a,1,none⟩ = some (.int .i64 p.n) ∧ w'.cell? ⟨a + 1,0,none⟩ = some (.pointer q.q) ∧ w'.cell? ⟨a + 1,1,none⟩ = some (.int .i64 q.n) from ⟨(F3.out.bt hz K3.out.mt).h.c0,(F3.out.bt hz K3.out.mt).h.c1,(F3.out.bt hz K3.out.mt).o.c0,(F3.out.bt hz K3.out.mt).o.c1⟩));have hB:=(Bt.refl mo w4).drew;have hM:=K3.out.mt.drew;have hLa:=HL.out.1.kps K3.out.drew.kp K3.out.drew.bt.size;have hLb:=HL.out.2.kps K3.out.drew.kp K3.out.drew.bt.size;refine wp_region_noPanic ?_;refine wp_region_held_drew (S:=fun w' => w'.cell? ⟨a,0,none⟩ = some (.pointer p.q) ∧ w'.cell? ⟨a,1,none⟩ = some (.int .i64 p.n) ∧ w'.cell? ⟨a + 1,0,none⟩ = some (.pointer q.q) ∧ w'.cell? ⟨a + 1,1,none⟩ = some (.int .i64 q.n)) (by kernel_rfl) (HS.out _ hB) (fun hH => ?_);generalize w4.drew = wd at *;refine tk 0 hH ?_;try simp only [bkz]
  refine tk 2 hH ?_;try simp only [bkz]
  refine tk 3 hH ?_;try simp only [bkz]
  refine rd2 1 6 (fun K hK => ?_) (fun K hK => ?_)
  ·go_simp;go_at_call 361
   (with_reducible refine (rest_any f la p _ hLa).mono ?_);rintro e w5 ⟨p1,rfl,ht1,hb⟩;replace hLb:=hLb.stay hb;replace hB:=hB.trans (Bt.ofBelow hb);replace hM:=hM.stay hb;clear hb hLa;refine hK.out _ _ ?_ (fun hH2 => ?_)
   ·exact HS.out _ hB
   clear hK K hH;have hH:=hH2;clear hH2;try simp only [bkz]
   refine rd2 4 6 (fun K hK => ?_) (fun K hK => ?_)
   ·go_simp;go_at_call 361
    (with_reducible refine (rest_any g bs q _ hLb).mono ?_);rintro e w6 ⟨p2,rfl,ht2,hb⟩;replace ht1:=ht1.stay hb;replace hB:=hB.trans (Bt.ofBelow hb);replace hM:=hM.stay hb;clear hb hLb;refine hK.out _ _ ?_ (fun hH2 => ?_)
    ·exact HS.out _ hB
    clear hK K hH;have hH:=hH2;clear hH2;try simp only [bkz]
    refine rd2 5 6 (fun K hK => ?_) (fun K hK => ?_)
    focus
     go_simp;go_at_call 357
     (with_reducible refine (HI.out c m p1 p2 _ (by have:=HN.out;omega) hM HN.out.2.1 HN.out.2.2.1 HN.out.2.2.2.1 HN.out.2.2.2.2 ht1 ht2).mono ?_);rintro e w7 ⟨p5,rfl,ht5,hm5,hb⟩;replace hB:=hB.trans hb;replace hM:=hm5;clear hb hm5 ht1 ht2;refine hK.out _ _ ?_ (fun hH2 => ?_)
     ·exact HS.out _ hB
     clear hK K hH;have hH:=hH2;clear hH2;try simp only [bkz]
     refine rd1 6 (fun K hK => ?_);go_simp;refine hK.out _ _ ?_ (fun hH2 => ?_)
     ·exact HS.out _ (hB.alloc _)
     clear hK K hH;have hH:=hH2;clear hH2;have hv:=Box2.new w7 108 (.pointer none) (.int .i64 0);have hV:w4.heap.size ≤ w7.heap.size:=hB.size;replace ht5:=ht5.stay (bqA (.cells #[.pointer none,.int .i64 0] 108));replace hB:=hB.alloc (.cells #[.pointer none,.int .i64 0] 108);replace hM:=hM.alloc (.cells #[.pointer none,.int .i64 0] 108);obtain ⟨v,hve⟩:=exq (w7.heap.size);rw [← hve] at hv hV ⊢;clear hve;generalize w7.alloc (.cells #[.pointer none,.int .i64 0] 108) = wA at *
    rotate_left
    focus
     go_simp;refine hK.out _ _ ?_ (fun hH2 => ?_)
     ·exact HS.out _ (hB.alloc _)
     clear hK K hH;have hH:=hH2;clear hH2;have hv:=Box2.new w6 108 (.pointer none) (.int .i64 0);have hV:w4.heap.size ≤ w6.heap.size:=hB.size;replace ht1:=ht1.stay (bqA (.cells #[.pointer none,.int .i64 0] 108));replace ht2:=ht2.stay (bqA (.cells #[.pointer none,.int .i64 0] 108));replace hB:=hB.alloc (.cells #[.pointer none,.int .i64 0] 108);replace hM:=hM.alloc (.cells #[.pointer none,.int .i64 0] 108);obtain ⟨v,hve⟩:=exq (w6.heap.size);rw [← hve] at hv hV ⊢;clear hve;generalize w6.alloc (.cells #[.pointer none,.int .i64 0] 108) = wA at *;try simp only [bkz]
     refine rd1 5 (fun K hK => ?_);go_simp;go_at_call 357
     (with_reducible refine (HI.out c m p1 p2 _ (by have:=HN.out;omega) hM HN.out.2.1 HN.out.2.2.1 HN.out.2.2.2.1 HN.out.2.2.2.2 ht1 ht2).mono ?_);rintro e w7 ⟨p5,rfl,ht5,hm5,hb⟩;replace hv:=hv.bt hb hM (by decide);replace hB:=hB.trans hb;replace hM:=hm5;clear hb hm5 ht1 ht2;refine hK.out _ _ ?_ (fun hH2 => ?_)
     ·exact HS.out _ hB
     clear hK K hH;have hH:=hH2;clear hH2
    rotate_left
    all_goals
     try simp only [bkz]
     have vc0:=hv.c0;have vc1:=hv.c1;have vz0:=hv.z0;have vz1:=hv.z1;refine rd1 7 (fun K hK => ?_);go_simp;refine hK.out _ _ ?_ (fun hH2 => ?_)
     ·exact HS.out _ ((hB.own hV 0 _).own hV 1 _)
     clear hK K hH;have hH:=hH2;clear hH2;have hv2:=hv.set (.pointer p5.q) (.int .i64 p5.n);have ht6:=ht5.set2 hv heapT_ne (.pointer p5.q) (.int .i64 p5.n);have hB2:=(hB.own hV 0 (.pointer p5.q)).own hV 1 (.int .i64 p5.n);have hM2:=(hM.other hv (by decide) 0 (.pointer p5.q)).other (hv.set0 (.pointer p5.q)) (by decide) 1 (.int .i64 p5.n);clear vc0 vc1 vz0 vz1;try simp only [bkz]
     refine dn ?_;clear hH;exact ⟨rfl,_,_,_,_,_,_,v,p5,by (try simp only [bkz]);rfl,hB2,hM2,hV,hv2,ht6⟩
   ·go_simp;refine hK.out _ _ ?_ (fun hH2 => ?_)
    ·exact HS.out _ (hB.alloc _)
    clear hK K hH;have hH:=hH2;clear hH2;have hv:=Box2.new w5 108 (.pointer none) (.int .i64 0);have hV:w4.heap.size ≤ w5.heap.size:=hB.size;replace ht1:=ht1.stay (bqA (.cells #[.pointer none,.int .i64 0] 108));replace hLb:=hLb.stay (bqA (.cells #[.pointer none,.int .i64 0] 108));replace hB:=hB.alloc (.cells #[.pointer none,.int .i64 0] 108);replace hM:=hM.alloc (.cells #[.pointer none,.int .i64 0] 108);obtain ⟨v,hve⟩:=exq (w5.heap.size);rw [← hve] at hv hV ⊢;clear hve;generalize w5.alloc (.cells #[.pointer none,.int .i64 0] 108) = wA at *;try simp only [bkz]
    refine rd1 4 (fun K hK => ?_);go_simp;go_at_call 361
    (with_reducible refine (rest_any g bs q _ hLb).mono ?_);rintro e w6 ⟨p2,rfl,ht2,hb⟩;replace ht1:=ht1.stay hb;replace hB:=hB.trans (Bt.ofBelow hb);replace hM:=hM.stay hb;replace hv:=hv.stay hb;clear hb hLb;refine hK.out _ _ ?_ (fun hH2 => ?_)
    ·exact HS.out _ hB
    clear hK K hH;have hH:=hH2;clear hH2;try simp only [bkz]
    refine rd1 5 (fun K hK => ?_);go_simp;go_at_call 357
    (with_reducible refine (HI.out c m p1 p2 _ (by have:=HN.out;omega) hM HN.out.2.1 HN.out.2.2.1 HN.out.2.2.2.1 HN.out.2.2.2.2 ht1 ht2).mono ?_);rintro e w7 ⟨p5,rfl,ht5,hm5,hb⟩;replace hv:=hv.bt hb hM (by decide);replace hB:=hB.trans hb;replace hM:=hm5;clear hb hm5 ht1 ht2;refine hK.out _ _ ?_ (fun hH2 => ?_)
    ·exact HS.out _ hB
    clear hK K hH;have hH:=hH2;clear hH2;try simp only [bkz]
    have vc0:=hv.c0;have vc1:=hv.c1;have vz0:=hv.z0;have vz1:=hv.z1;refine rd1 7 (fun K hK => ?_);go_simp;refine hK.out _ _ ?_ (fun hH2 => ?_)
    ·exact HS.out _ ((hB.own hV 0 _).own hV 1 _)
    clear hK K hH;have hH:=hH2;clear hH2;have hv2:=hv.set (.pointer p5.q) (.int .i64 p5.n);have ht6:=ht5.set2 hv heapT_ne (.pointer p5.q) (.int .i64 p5.n);have hB2:=(hB.own hV 0 (.pointer p5.q)).own hV 1 (.int .i64 p5.n);have hM2:=(hM.other hv (by decide) 0 (.pointer p5.q)).other (hv.set0 (.pointer p5.q)) (by decide) 1 (.int .i64 p5.n);clear vc0 vc1 vz0 vz1;try simp only [bkz]
    refine dn ?_;clear hH;exact ⟨rfl,_,_,_,_,_,_,v,p5,by (try simp only [bkz]);rfl,hB2,hM2,hV,hv2,ht6⟩
  ·go_simp;refine hK.out _ _ ?_ (fun hH2 => ?_)
   ·exact HS.out _ (hB.alloc _)
   clear hK K hH;have hH:=hH2;clear hH2;have hv:=Box2.new wd 108 (.pointer none) (.int .i64 0);have hV:w4.heap.size ≤ wd.heap.size:=hB.size;replace hLa:=hLa.stay (bqA (.cells #[.pointer none,.int .i64 0] 108));replace hLb:=hLb.stay (bqA (.cells #[.pointer none,.int .i64 0] 108));replace hB:=hB.alloc (.cells #[.pointer none,.int .i64 0] 108);replace hM:=hM.alloc (.cells #[.pointer none,.int .i64 0] 108);obtain ⟨v,hve⟩:=exq (wd.heap.size);rw [← hve] at hv hV ⊢;clear hve;generalize wd.alloc (.cells #[.pointer none,.int .i64 0] 108) = wA at *;try simp only [bkz]
   refine rd1 1 (fun K hK => ?_);go_simp;go_at_call 361
   (with_reducible refine (rest_any f la p _ hLa).mono ?_);rintro e w5 ⟨p1,rfl,ht1,hb⟩;replace hLb:=hLb.stay hb;replace hB:=hB.trans (Bt.ofBelow hb);replace hM:=hM.stay hb;replace hv:=hv.stay hb;clear hb hLa;refine hK.out _ _ ?_ (fun hH2 => ?_)
   ·exact HS.out _ hB
   clear hK K hH;have hH:=hH2;clear hH2;try simp only [bkz]
   refine rd1 4 (fun K hK => ?_);go_simp;go_at_call 361
   (with_reducible refine (rest_any g bs q _ hLb).mono ?_);rintro e w6 ⟨p2,rfl,ht2,hb⟩;replace ht1:=ht1.stay hb;replace hB:=hB.trans (Bt.ofBelow hb);replace hM:=hM.stay hb;replace hv:=hv.stay hb;clear hb hLb;refine hK.out _ _ ?_ (fun hH2 => ?_)
   ·exact HS.out _ hB
   clear hK K hH;have hH:=hH2;clear hH2;try simp only [bkz]
   refine rd1 5 (fun K hK => ?_);go_simp;go_at_call 357
   (with_reducible refine (HI.out c m p1 p2 _ (by have:=HN.out;omega) hM HN.out.2.1 HN.out.2.2.1 HN.out.2.2.2.1 HN.out.2.2.2.2 ht1 ht2).mono ?_);rintro e w7 ⟨p5,rfl,ht5,hm5,hb⟩;replace hv:=hv.bt hb hM (by decide);replace hB:=hB.trans hb;replace hM:=hm5;clear hb hm5 ht1 ht2;refine hK.out _ _ ?_ (fun hH2 => ?_)
   ·exact HS.out _ hB
   clear hK K hH;have hH:=hH2;clear hH2;try simp only [bkz]
   have vc0:=hv.c0;have vc1:=hv.c1;have vz0:=hv.z0;have vz1:=hv.z1;refine rd1 7 (fun K hK => ?_);go_simp;refine hK.out _ _ ?_ (fun hH2 => ?_)
   ·exact HS.out _ ((hB.own hV 0 _).own hV 1 _)
   clear hK K hH;have hH:=hH2;clear hH2;have hv2:=hv.set (.pointer p5.q) (.int .i64 p5.n);have ht6:=ht5.set2 hv heapT_ne (.pointer p5.q) (.int .i64 p5.n);have hB2:=(hB.own hV 0 (.pointer p5.q)).own hV 1 (.int .i64 p5.n);have hM2:=(hM.other hv (by decide) 0 (.pointer p5.q)).other (hv.set0 (.pointer p5.q)) (by decide) 1 (.int .i64 p5.n);clear vc0 vc1 vz0 vz1;try simp only [bkz]
   refine dn ?_;clear hH;exact ⟨rfl,_,_,_,_,_,_,v,p5,by (try simp only [bkz]);rfl,hB2,hM2,hV,hv2,ht6⟩
 rintro x' w' ⟨u59,u60,u61,u62,u63,u64,v,p5,rfl,hB,hM,hV,hv,ht⟩;try simp only [bkz]
 have nv1:¬ v = a + 1 + 1:=by have:=F3.out.r.lt;omega
 have nv2:¬ a + 1 + 1 = v:=by have:=F3.out.r.lt;omega
 have F5:=hdz (F3.out.bt hB K3.out.mt);have K5:=hdz (K3.out.turn hM hB node_ne);have T5:=hdz (anz (T3.out.1.kp (Kp.tree (Kp.bt hB K3.out.mt))) (T3.out.2.kp (Kp.tree (Kp.bt hB K3.out.mt))));have V5:=hdz (anz hv (anz ht hV));have v0:=hv.c0;have v1:=hv.c1;clear hB hM hV hv ht F3 K3 T3;go_wp2_with fail
 have HQ:=hdz HEQ.out
 have HLOW:=hdz (show ∀ x ∈ bmeld la bs,(lnk f g).rank ≤ x.rank from by
  rw [lnk_rank HQ.out];have h1:=List.pairwise_cons.1 HB1.out.1.rise;have h2:=List.pairwise_cons.1 HB1.out.2.rise;have h3:=(bmeld_good la bs (tail_ok HB1.out.1).hok (tail_ok HB1.out.2).hok (tail_ok HB1.out.1).bin (tail_ok HB1.out.2).bin h1.2 h2.2).2.2.2 (f.rank + 1) (fun u hu => h1.1 u hu) (fun u hu => by have:=h2.1 u hu;have:=HQ.out;omega);exact h3)
 go_region_held3 (fun w' => w'.cell? ⟨v,0,none⟩ = some (.pointer p5.q) ∧ w'.cell? ⟨v,1,none⟩ = some (.int .i64 p5.n)) (go_keep)
  (first | (go_at_call 143;((with_reducible refine (link_any mo (c + (bmeldN la bs:Nat)) (m + (bmeldN la bs:Nat)) fa ga (some f) (some g) _ K5.out.drew.mt (by have:=HN.out;omega) (by have:=HN.out;have:=HZ.out;omega) (by have:=HN.out;omega) (by have:=HN.out;have:=HZ.out;omega) (T5.out.1.stay ((Below.refl _ _).drew)) (T5.out.2.stay ((Below.refl _ _).drew)) (by have:=HN.out;simp only [osize];omega) (by have:=HN.out;simp only [osize];omega)).mono ?_);rintro e w6 ⟨p6,rfl,ht6,hm6,hb6⟩;have F6:=hdz ((F5.out.stay ((Below.refl _ _).drew)).bt hb6 K5.out.drew.mt);have K6:=hdz (K5.out.drew.turn hm6 hb6 node_ne);have T6:=hdz (show TAt w6 p6 (some (lnk f g)) from ht6);have V6:=hdz (anz ((V5.out.1.stay ((Below.refl _ _).drew)).bt hb6 K5.out.drew.mt (by decide)) ((V5.out.2.1.stay ((Below.refl _ _).drew)).bt hb6 K5.out.drew.mt));have v60:=V6.out.1.c0;have v61:=V6.out.1.c1;clear ht6 hm6 hb6)) | (go_at_call 116;((with_reducible refine (ahead_any mo (c + (bmeldN la bs:Nat) + (lnkN (some f) (some g):Nat)) (m + (bmeldN la bs:Nat) + (lnkN (some f) (some g):Nat)) (lnk f g) (bmeld la bs) p6 p5 _ (by rw [lnk_size];have:=HN.out;have:=HZ.out;omega) K6.out.mt (by have:=HN.out;omega) (by have:=HN.out;have:=HZ.out;simp only [lnkN];omega) (by have:=HN.out;omega) (by have:=HN.out;have:=HZ.out;simp only [lnkN];omega) V6.out.2 T6.out (lnk_hok (HB1.out.1.hok f (List.mem_cons_self ..)) (HB1.out.2.hok g (List.mem_cons_self ..))) (lnk_bin HQ.out (HB1.out.1.bin f (List.mem_cons_self ..)) (HB1.out.2.bin g (List.mem_cons_self ..))) HLOW.out).mono ?_);rintro e w7 ⟨p7,rfl,ht7,hm7,hb7⟩;have F7:=hdz (F6.out.bt hb7 K6.out.mt);have K7:=hdz (K6.out.turn hm7 hb7 node_ne);have L7:=hdz ht7;have V7:=hdz (V6.out.1.bt hb7 K6.out.mt (by decide));have v70:=V7.out.c0;have v71:=V7.out.c1;have z0:=F7.out.r.z0;have z1:=F7.out.r.z1;have r0:=F7.out.r.c0;have r1:=F7.out.r.c1;clear ht7 hm7 hb7)))
 go_wp2_with fail
 have s0:=(F7.out.r.set (.pointer p7.q) (.int .i64 p7.n)).c0;have s1:=(F7.out.r.set (.pointer p7.q) (.int .i64 p7.n)).c1;have k:=K7.out.put2 F7.out.r heapT_ne (by decide) (by have:=HA.out;omega) (.pointer p7.q) (.int .i64 p7.n);have e1:c + ((1 + bmeldN la bs + putTN (bmeld la bs) (lnk f g):Nat):Int) = c + (bmeldN la bs:Nat) + (lnkN (some f) (some g):Nat) + (putTN (bmeld la bs) (lnk f g):Nat):=by simp only [lnkN];omega
 have e2:m + ((1 + bmeldN la bs + putTN (bmeld la bs) (lnk f g):Nat):Int) = m + (bmeldN la bs:Nat) + (lnkN (some f) (some g):Nat) + (putTN (bmeld la bs) (lnk f g):Nat):=by simp only [lnkN];omega
 exact bodyPost_ret (v:=hp p7) (by simp [results,Tryz.results357,go_sem,s0,s1]) rfl ⟨p7,rfl,by rw [HE.out.1];exact L7.out.set2 F7.out.r heapT_ne _ _,by rw [HE.out.2,e1,e2];exact k.mt,k.bt⟩
theorem meld_all (mo:Option Nat):∀ la bs:List Tre,MeldsTo mo la bs:=by
 refine bmeld_ind ?_ ?_ ?_ ?_ ?_
 ·exact fun b => meld_first mo b
 ·exact fun f a => meld_second mo f a
 ·exact fun f a g b h ih => meld_lt mo f g a b h ih
 ·exact fun f a g b h ih => meld_gt mo f g a b h ih
 ·exact fun f a g b h ih => meld_eq mo f g a b h ih
theorem meld_any (mo:Option Nat) (a b:Lh) (c m:Int) (p q:HP) (w:World) (hs:a.size + b.size < 268435456) (hm:MAt w mo c m) (h0:0 ≤ c) (h1:c < 576460752303423488) (h2:0 ≤ m) (h3:m < 576460752303423488)
  (ha:LAt w a p) (hb:LAt w b q):Calls Tryz.prog 357 #[hp p,mAddr mo,hp q] w (Gave mo (c + meldN a b) (m + meldN a b) (meld a b) w) :=
 meld_all mo a.ts b.ts c m p q w hs hm h0 h1 h2 h3 ha hb
end Go.Proofs.YtmeodbjlmjpnbaaGreat.Bi.Hp
namespace Go.Proofs.YtmeodbjlmjpnbaaGreat.Bi.Hp
open Go.Sort Go.RowKit
theorem bSize_app:∀ a b:List Tre,bSize (a ++ b) = bSize a + bSize b
 | [],b => by simp [bSize]
 | t :: r,b => by simp only [List.cons_append,bSize,bSize_app r b];omega
theorem bSize_drop_le (l:List Tre) (i:Nat):bSize (l.drop i) ≤ bSize l:=by
 conv => rhs;rw [← List.take_append_drop i l]
 rw [bSize_app];omega
theorem sub_ok {us ts:List Tre} (h:bOk ts) (hs:us.Sublist ts):bOk us:=⟨fun u hu => h.hok u (hs.subset hu),fun u hu => h.bin u (hs.subset hu),h.rise.sublist hs⟩
section
variable {w:World} {ts us:List Tre} {p q:HP}
theorem drop_h (h:LAt w ⟨ts⟩ p) (k:Nat) (hk:k < 2147483648):Calls Tryz.prog 147 #[hp p,.int .i64 (k:Int)] w fun e w' => ∃ p':HP,e = .returned (.agg #[.pointer p'.q,.int .i64 p'.n]) ∧ LAt w' ⟨ts.drop k⟩ p' ∧ Below w.heap.size w w':=by
 have hs:=h.small;have hok:bOk ts:=h.right;obtain ⟨ps,n,hn,hnl,hl,ht⟩:=h.list;obtain ⟨q0,pn⟩:=p;change pn = (n:Int) at hn;subst hn;refine (Lt.drop_l (k:Int) hl (by omega) (by omega)).mono fun e w' ⟨q',n',he,hl',hb⟩ => ⟨⟨q',(n':Int)⟩,he,?_,hb⟩;rw [show (k:Int).toNat = k from rfl] at hl';exact LAt.of hl' ((ht.drop k).kp (Kpt.below hb)) (Nat.lt_of_le_of_lt (bSize_drop_le ts k) hs) (sub_ok hok (List.drop_sublist k ts))
theorem restL_h (h:LAt w ⟨ts⟩ p):Calls Tryz.prog 144 #[hp p] w fun e w' => ∃ p':HP,e = .returned (.agg #[.pointer p'.q,.int .i64 p'.n]) ∧ LAt w' ⟨ts.tail⟩ p' ∧ Below w.heap.size w w':=by
 have hs:=h.small;have hok:bOk ts:=h.right;obtain ⟨ps,n,hn,hnl,hl,ht⟩:=h.list;obtain ⟨q0,pn⟩:=p;change pn = (n:Int) at hn;subst hn;refine (Lt.rest_l hl).mono fun e w' ⟨q',n',he,hl',hb⟩ => ⟨⟨q',(n':Int)⟩,he,?_,hb⟩;refine LAt.of hl' (ht.tail.kp (Kpt.below hb)) ?_ (sub_ok hok (List.tail_sublist ts));rw [← List.drop_one];exact Nat.lt_of_le_of_lt (bSize_drop_le ts 1) hs
theorem of_h {A:Option Addr} {n c:Nat} {ps:List (Option Addr)} (hr:Row1 Lt.one w A ps) (ht:TsAt w ts ps) (hn:n = ts.length) (hs:bSize ts < 268435456) (hok:bOk ts):Calls Tryz.prog 312 #[.slice A n c] w fun e w' => ∃ p':HP,e = .returned (.agg #[.pointer p'.q,.int .i64 p'.n]) ∧ LAt w' ⟨ts⟩ p' ∧ Below w.heap.size w w':=by
 have hl:=len_bSize ts;refine (Lt.of_l (hn.trans ht.length.symm) hr (by omega)).mono fun e w' ⟨q',n',he,hl',hb⟩ => ⟨⟨q',(n':Int)⟩,he,?_,hb⟩;exact LAt.of hl' (ht.kp (Kpt.below hb)) hs hok
theorem join_h (h:LAt w ⟨ts⟩ p) (h':LAt w ⟨us⟩ q) (hs:bSize (ts ++ us) < 268435456) (hok:bOk (ts ++ us)):Calls Tryz.prog 313 #[hp p,hp q] w fun e w' => ∃ p':HP,e = .returned (.agg #[.pointer p'.q,.int .i64 p'.n]) ∧ LAt w' ⟨ts ++ us⟩ p' ∧ Below w.heap.size w w':=by
 have g1:=h.len;have g2:=h'.len;change ts.length < _ at g1;change us.length < _ at g2;obtain ⟨ps,n,hn,hnl,hl,ht⟩:=h.list;obtain ⟨ps',n',hn',hnl',hl',ht'⟩:=h'.list;obtain ⟨q0,pn⟩:=p;obtain ⟨q1,pn'⟩:=q;change pn = (n:Int) at hn;change pn' = (n':Int) at hn';change n = ts.length at hnl;change n' = us.length at hnl';subst hn;subst hn';refine (Lt.join_l hl hl' (by omega)).mono fun e w' ⟨q',m',he,hl2,hb⟩ => ⟨⟨q',(m':Int)⟩,he,?_,hb⟩;exact LAt.of hl2 ((ht.append ht').kp (Kpt.below hb)) hs hok
end
structure TRow (mo:Option Nat) (W:World) (ts:List Tre) (A:Option Addr) (n c:Nat):Prop where
 ex:∃ ps,Row1 Lt.one W A ps ∧ TsAt W ts ps
 len:n = ts.length
 cap:n ≤ c
 apart:∀ b,mo = some b → ∀ a,A = some a → a.block ≠ b
section
variable {mo:Option Nat} {cc m:Int} {W W':World} {ts:List Tre} {A:Option Addr} {n c:Nat}
theorem TRow.bt (h:TRow mo W ts A n c) (hb:Bt mo W W') (hm:MAt W mo cc m):TRow mo W' ts A n c:=by
 obtain ⟨ps,hr,ht⟩:=h.ex;exact ⟨⟨ps,fun h0 => (hr h0).imp fun b hb1 => hb1.imp fun o ho => ⟨ho.1,fun j hj => hb.cell (ho.2 j hj) (fun mb e => h.apart mb e ⟨b,o,none⟩ ho.1)⟩,ht.bt hb hm⟩,h.len,h.cap,h.apart⟩
theorem TRow.stay (h:TRow mo W ts A n c) (hb:Below W.heap.size W W'):TRow mo W' ts A n c:=by
 obtain ⟨ps,hr,ht⟩:=h.ex;exact ⟨⟨ps,hr.stay hb,ht.kp (Kpt.below hb)⟩,h.len,h.cap,h.apart⟩
theorem TRow.set2 (h:TRow mo W ts A n c) {b:Nat} {t:TypeId} {x y:Value} (hne:∀ a,A = some a → a.block ≠ b) (hx:Box2 W b t x y) (ht:¬ NodeT t) (u v:Value):TRow mo ((W.setCell ⟨b,0,Option.none⟩ u).setCell ⟨b,1,Option.none⟩ v) ts A n c:=by
 obtain ⟨ps,hr,hts⟩:=h.ex;exact ⟨⟨ps,fun h0 => (hr h0).imp fun b' hb1 => hb1.imp fun o ho => ⟨ho.1,fun j hj => cell_aside (hne ⟨b',o,none⟩ ho.1) (ho.2 j hj) u v⟩,hts.set2 hx ht u v⟩,h.len,h.cap,h.apart⟩
theorem TRow.at (h:TRow mo W ts A n c) {j:Nat} (hj:j < n):∃ b o p,A = some ⟨b,o,none⟩ ∧ W.cell? ⟨b,o + j,none⟩ = some (.pointer p) ∧ TAt W p (some (ts[j]'(h.len ▸ hj))):=by
 obtain ⟨ps,hr,ht⟩:=h.ex;have hl:=ht.length;obtain ⟨p,hp,hta⟩:=ht.at (List.getElem?_eq_getElem (h.len ▸ hj));obtain ⟨b,o,rfl⟩:=row_some hr (by have:=h.len;omega);exact ⟨b,o,p,rfl,row_ptr hr hp,hta⟩
theorem TRow.take (h:TRow mo W ts A n c) (k:Nat):∃ ps,Row1 Lt.one W A ps ∧ TsAt W (ts.take k) ps:=by
 obtain ⟨ps,hr,ht⟩:=h.ex;refine ⟨ps.take k,fun h0 => ?_,ht.take k⟩;rw [List.length_take] at h0;obtain ⟨b,o,e,hc⟩:=hr (by omega);refine ⟨b,o,e,fun j hj => ?_⟩;rw [List.length_take] at hj;rw [List.getElem_take];exact hc j (by omega)
end
theorem all_h {mo:Option Nat} {cc m:Int} {ts:List Tre} {p:HP} {w:World} (h:LAt w ⟨ts⟩ p) (hm:MAt w mo cc m):Calls Tryz.prog 223 #[hp p] w fun e w' => ∃ (A:Option Addr) (n c:Nat),e = .returned (.slice A n c) ∧ TRow mo w' ts A n c ∧ (∀ a,A = some a → w.heap.size ≤ a.block) ∧ Below w.heap.size w w':=by
 obtain ⟨ps,n,hn,hnl,hl,ht⟩:=h.list;obtain ⟨q0,pn⟩:=p;change pn = (n:Int) at hn;subst hn;refine (Lt.all_l hl).mono fun e w' ⟨A,c,he,hmi,hr,hc,hb⟩ => ⟨A,n,c,he,⟨⟨ps,hr,ht.kp (Kpt.below hb)⟩,hnl,hc,fun b e a ea => ?_⟩,fun a ea => by subst ea;exact Mine.block hmi a.block rfl,hb⟩;subst e;subst ea;have h1:=Mine.block hmi a.block rfl;have h2:=hm.lt;omega
theorem leastK_step (l:List Tre) {i:Nat} (h:0 < i):leastK l i = if ltE (rootAt l i) (rootAt l (leastK l (i - 1))) = true then i else leastK l (i - 1):=by
 obtain ⟨j,rfl⟩:∃ j,i = j + 1:=⟨i - 1,by omega⟩;rfl
theorem place_any (mo:Option Nat) (c m:Int) (t:Lh) (p:HP) (w:World) (hm:MAt w mo c m) (h0:0 ≤ c) (h1:c < 1152921504606846976) (h:LAt w t p) :
  Calls Tryz.prog 362 #[hp p,mAddr mo] w fun e w' => e = .returned (.int .i64 (leastI t.ts:Nat)) ∧ MAt w' mo (c + t.tellN) m ∧ Bt mo w w':=by
 obtain ⟨ts⟩:=t;have hlen:=h.len;change ts.length < _ at hlen;have hb1:Below w.heap.size w ((w.alloc (.cells #[.pointer p.q,.int .i64 p.n] 108)).alloc (.cells #[.int .i64 0,.int .i64 0] 29)):=((Below.refl _ w).alloc (Nat.le_refl _) _).alloc (by simp) _;have bE:=Box2.new (w.alloc (.cells #[.pointer p.q,.int .i64 p.n] 108)) 29 (.int .i64 0) (.int .i64 0);simp only [World.size_alloc] at bE;have H:=hdz (anz (h.stay hb1) (anz (Bt.ofBelow (mo:=mo) hb1) (anz (hm.stay hb1) (anz bE (anz h0 (anz h1 hlen))))));clear h hm hb1 bE h0 h1 hlen;go_enter Tryz.func362,Tryz.ntmps362
 go_wp2_with fail
 generalize (w.alloc (.cells #[.pointer p.q,.int .i64 p.n] 108)).alloc (.cells #[.int .i64 0,.int .i64 0] 29) = w1 at *;obtain ⟨b,hbe⟩:=exq (w.heap.size + 1);rw [← hbe] at H ⊢;have HBE:=hdz (show w.heap.size ≤ b by omega);clear hbe;((with_reducible refine (all_h H.out.1 H.out.2.2.1).mono ?_);rintro e w2 ⟨A,n,ca,rfl,hr,hab,hb2⟩);have X:=hdz (anz hr (anz (H.out.2.1.trans (Bt.ofBelow hb2)) (anz (H.out.2.2.1.stay hb2) (H.out.2.2.2.1.stay hb2))));have hn:n = ts.length:=hr.len;have HN:=hdz hn;have HAB:=hdz (show ∀ a,A = some a → a.block ≠ b from fun a ea => by have h1:=hab a ea;have h2:=H.out.2.2.2.1.lt;omega);clear hr hb2 hn hab;go_wp2_with fail
 go_loopg [5,15] n (fun k s iv wr => ∃ (i pl:Nat) (x:Int × Int),iv = .int .i64 (i:Int) ∧ s = .int .i64 (pl:Int) ∧ i + k = n ∧ Box2 wr b 29 (.int .i64 x.1) (.int .i64 x.2) ∧ (pl = leastK ts (i - 1)) ∧ (0 < i → x = rootAt ts pl) ∧ Bt mo w wr ∧ TRow mo wr ts A n ca ∧ MAt wr mo (c + ((i - 1:Nat):Int)) m)
 case atStart => exact ⟨0,0,(0,0),rfl,rfl,by omega,X.out.2.2.2,rfl,fun h => absurd h (by omega),X.out.2.1,X.out.1,by simpa using X.out.2.2.1⟩
 case round =>
  obtain ⟨i,pl,⟨x1,x2⟩,rfl,rfl,hi,hbx,hpl,hx,hbt,htr,hm⟩:=hrel;by_cases hlt:i < n
  ·obtain ⟨bA,oA,pa,rfl,hcell,hta⟩:=htr.at hlt;have g1:decide ((i:Int) < (n:Int)) = true:=by simp;omega
   have g2:(i:Int) < (n:Int):=by omega
   have g3:(0:Int) ≤ (i:Int):=by omega
   have hil:i < ts.length:=by have:=HN.out;omega
   have hroot:rootAt ts i = (ts[i]).x:=by unfold rootAt;rw [List.getElem?_eq_getElem hil]
   generalize ts[i] = u at *;obtain ⟨⟨y1,y2⟩,ubs,uks⟩:=u;have hw2:IntKind.i64.wrap ((i:Int) + 1) = ((i + 1:Nat):Int):=by have:=HN.out;have:=H.out.2.2.2.2.2.2;rw [IntKind.wrap_i64];omega
   have hw3:wrap64 ((i:Int) + 1) = ((i + 1:Nat):Int):=by have:=HN.out;have:=H.out.2.2.2.2.2.2;unfold wrap64;omega
   have Y:=hdz (anz hi (anz hbx (anz hpl (anz hx (anz hbt (anz htr (anz hm (anz hta hroot))))))));clear hi hbx hpl hx hbt htr hm hta hil hroot;go_wp2_with fail
   ((with_reducible refine (Go.Proofs.YtmeodbjlmjpnbaaGreat.root_any pa (some ⟨(y1,y2),ubs,uks⟩) _ Y.out.2.2.2.2.2.2.2.1).mono ?_);rintro e w3 ⟨rfl,hb3⟩);rw [show rootV (some ⟨(y1,y2),ubs,uks⟩) = .tuple #[el (y1,y2),.bool true] from rfl];have Z:=hdz (anz (Y.out.2.1.stay hb3) (anz (Y.out.2.2.2.2.1.trans (Bt.ofBelow hb3)) (anz (Y.out.2.2.2.2.2.1.stay hb3) (Y.out.2.2.2.2.2.2.1.stay hb3))));clear hb3 hcell;have hA:=(Below.refl w3.heap.size w3).alloc (Nat.le_refl _) (.cells #[.int .i64 y1,.int .i64 y2] 29);have B4:=hdz (anz (Z.out.1.stay hA) (anz (Z.out.2.1.trans (Bt.ofBelow hA)) (anz (Z.out.2.2.1.stay hA) (anz (Z.out.2.2.2.stay hA) (anz (Box2.new w3 29 (.int .i64 y1) (.int .i64 y2)) (Nat.lt_of_lt_of_le Z.out.1.lt (Nat.le_refl _)))))));have k0:=B4.out.1.c0;have k1:=B4.out.1.c1;clear hA;by_cases hi0:i = 0
   ·have e0:((i:Int) == 0) = true:=by simp;omega
    have z0:=B4.out.1.z0;have z1:=B4.out.1.z1;have nz:¬ w3.heap.size = b:=by have:=B4.out.2.2.2.2.2;omega
    have nz2:¬ b = w3.heap.size:=by have:=B4.out.2.2.2.2.2;omega
    subst hi0;go_wp2_with fail
    go_region_held3 (fun w' => w'.cell? ⟨w3.heap.size,0,none⟩ = some (.int .i64 y1) ∧ w'.cell? ⟨w3.heap.size,1,none⟩ = some (.int .i64 y2)) (go_keep)
     (fail)
    go_wp2_with fail
    go_roundg (n - 1)
    case measure => have:=Y.out.1;omega
    case rel => exact ⟨1,0,(y1,y2),rfl,rfl,by have:=Y.out.1;omega,(B4.out.1.set _ _).stay ((Below.refl _ _).drew),rfl,fun _ => Y.out.2.2.2.2.2.2.2.2.symm,((B4.out.2.1.own HBE.out 0 _).own HBE.out 1 _).drew,(B4.out.2.2.1.set2 HAB.out B4.out.1 elemT_ne _ _).stay ((Below.refl _ _).drew),((B4.out.2.2.2.1.other B4.out.1 (by decide) 0 _).other (B4.out.1.set0 _) (by decide) 1 _).drew⟩
   ·have e0:((i:Int) == 0) = false:=by simp;omega
    go_wp2_with fail
    ((with_reducible refine (mLess mo (c + ((i - 1:Nat):Int)) m (y1,y2) (x1,x2) _ B4.out.2.2.2.1 (by have:=H.out;omega) (by have:=H.out;have:=HN.out;omega)).mono ?_);rintro e w5 ⟨rfl,hm5,hb5⟩);have B5:=hdz (anz (B4.out.1.bt hb5 B4.out.2.2.2.1 (by decide)) (anz (B4.out.2.1.trans hb5) (anz (B4.out.2.2.1.bt hb5 B4.out.2.2.2.1) (anz (show MAt w5 mo (c + ((i + 1 - 1:Nat):Int)) m from by rw [show c + ((i + 1 - 1:Nat):Int) = c + ((i - 1:Nat):Int) + 1 by omega];exact hm5) (B4.out.2.2.2.2.1.bt hb5 B4.out.2.2.2.1 (by decide))))));clear k0 k1 hm5 hb5
    cases hv:ltE (y1,y2) (x1,x2) with
    | true =>
     have k0:=B5.out.2.2.2.2.c0;have k1:=B5.out.2.2.2.2.c1;have z0:=B5.out.1.z0;have z1:=B5.out.1.z1;have z2:=B5.out.1.c0;have z3:=B5.out.1.c1;have nz:¬ w3.heap.size = b:=by have:=B4.out.2.2.2.2.2;omega
     have nz2:¬ b = w3.heap.size:=by have:=B4.out.2.2.2.2.2;omega
     go_wp2_with fail
     go_region_held3 (fun w' => w'.cell? ⟨w3.heap.size,0,none⟩ = some (.int .i64 y1) ∧ w'.cell? ⟨w3.heap.size,1,none⟩ = some (.int .i64 y2)) (go_keep)
      (fail)
     go_wp2_with fail
     go_roundg (n - 1 - i)
     case measure => have:=Y.out.1;omega
     case rel => exact ⟨i + 1,i,(y1,y2),rfl,rfl,by have:=Y.out.1;omega,(B5.out.1.set _ _).stay ((Below.refl _ _).drew),by rw [show i + 1 - 1 = i from rfl,leastK_step ts (Nat.pos_of_ne_zero hi0),Y.out.2.2.2.2.2.2.2.2,← Y.out.2.2.1,← Y.out.2.2.2.1 (Nat.pos_of_ne_zero hi0),hv];rfl,fun _ => Y.out.2.2.2.2.2.2.2.2.symm,((B5.out.2.1.own HBE.out 0 _).own HBE.out 1 _).drew,(B5.out.2.2.1.set2 HAB.out B5.out.1 elemT_ne _ _).stay ((Below.refl _ _).drew),((B5.out.2.2.2.1.other B5.out.1 (by decide) 0 _).other (B5.out.1.set0 _) (by decide) 1 _).drew⟩
    | false =>
     go_wp2_with fail
     go_roundg (n - 1 - i)
     case measure => have:=Y.out.1;omega
     case rel => exact ⟨i + 1,pl,(x1,x2),rfl,rfl,by have:=Y.out.1;omega,B5.out.1,by rw [show i + 1 - 1 = i from rfl,leastK_step ts (Nat.pos_of_ne_zero hi0),Y.out.2.2.2.2.2.2.2.2,← Y.out.2.2.1,← Y.out.2.2.2.1 (Nat.pos_of_ne_zero hi0),hv];rfl,fun _ => Y.out.2.2.2.1 (Nat.pos_of_ne_zero hi0),B5.out.2.1,B5.out.2.2.1,B5.out.2.2.2.1⟩
  ·have hin:i = n:=by omega
   have g1:decide ((i:Int) < (n:Int)) = false:=by simp;omega
   have g2:¬ (i:Int) < (n:Int):=by omega
   have hfin:pl = leastI ts:=by rw [hpl];unfold leastI;rw [hin,HN.out]
   have hct:((i - 1:Nat):Int) = ((Lh.mk ts).tellN:Nat):=by show _ = ((ts.length - 1:Nat):Int);rw [hin,HN.out]
   have Y:=hdz (anz hbt (show MAt wr mo (c + (Lh.mk ts).tellN) m from hct ▸ hm));clear hi hbx hpl hx hbt htr hm;go_wp2_with fail
   go_ret
   exact ⟨by first | rfl | rw [hfin],Y.out.2,Y.out.1⟩
end Go.Proofs.YtmeodbjlmjpnbaaGreat.Bi.Hp
namespace Go.Proofs.YtmeodbjlmjpnbaaGreat.Bi.Hp
open Go.Sort Go.RowKit
structure Fi (W:World) (a:Nat) (p:HP) (x:Int × Int):Prop where
 h:Box2 W a 108 (.pointer p.q) (.int .i64 p.n)
 e:Box2 W (a + 1) 29 (.int .i64 x.1) (.int .i64 x.2)
 r:Box2 W (a + 2) 108 (.pointer none) (.int .i64 0)
section
variable {W W':World} {a:Nat} {p:HP} {x:Int × Int} {mo:Option Nat} {c m:Int}
theorem Fi.new (w:World) (p:HP) (x:Int × Int):Fi (((w.alloc (.cells #[.pointer p.q,.int .i64 p.n] 108)).alloc (.cells #[.int .i64 x.1,.int .i64 x.2] 29)).alloc (.cells #[.pointer none,.int .i64 0] 108)) w.heap.size p x:=by
 refine ⟨((Box2.new w 108 _ _).alloc _).alloc _,?_,?_⟩
 ·have:=(Box2.new (w.alloc (.cells #[.pointer p.q,.int .i64 p.n] 108)) 29 (.int .i64 x.1) (.int .i64 x.2)).alloc (.cells #[.pointer none,.int .i64 0] 108);simpa only [World.size_alloc] using this
 ·have:=Box2.new ((w.alloc (.cells #[.pointer p.q,.int .i64 p.n] 108)).alloc (.cells #[.int .i64 x.1,.int .i64 x.2] 29)) 108 (.pointer none) (.int .i64 0);simpa only [World.size_alloc] using this
theorem Fi.stay (h:Fi W a p x) (hb:Below W.heap.size W W'):Fi W' a p x:=⟨h.h.stay hb,h.e.stay hb,h.r.stay hb⟩
theorem Fi.bt (h:Fi W a p x) (hb:Bt mo W W') (hm:MAt W mo c m):Fi W' a p x:=⟨h.h.bt hb hm (by decide),h.e.bt hb hm (by decide),h.r.bt hb hm (by decide)⟩
end
theorem insert_any (mo:Option Nat) (c m:Int) (h:Lh) (x:Int × Int) (p:HP) (w:World) (hs:h.size < 134217728) (hm:MAt w mo c m) (h0:0 ≤ c) (h1:c < 576460752303423488) (h2:0 ≤ m) (h3:m < 576460752303423487)
  (hh:LAt w h p):Calls Tryz.prog 91 #[hp p,mAddr mo,el x] w (Gave mo (c + meldN (.one x) h) (m + 1 + meldN (.one x) h) (h.insert x) w):=by
 obtain ⟨x1,x2⟩:=x;have HF:=hdz (Fi.new w p (x1,x2));have KK:=hdz ((Trk.refl (N:=NodeT) hm).stay (new3_below w (.cells #[.pointer p.q,.int .i64 p.n] 108) (.cells #[.int .i64 x1,.int .i64 x2] 29) (.cells #[.pointer none,.int .i64 0] 108)));have HN:=hdz (show h.size < 134217728 ∧ 0 ≤ c ∧ c < 576460752303423488 ∧ 0 ≤ m ∧ m < 576460752303423487 from ⟨hs,h0,h1,h2,h3⟩);have HH:=hdz hh;have HI:=hdz (show h.insert (x1,x2) = ⟨putT h.ts (leafT (x1,x2))⟩ ∧ meldN (.one (x1,x2)) h = putTN h.ts (leafT (x1,x2)) from ⟨congrArg Lh.mk (insert_ts h (x1,x2)),insertN h (x1,x2)⟩);clear hh hs h0 h1 h2 h3 hm;go_enter Tryz.func91,Tryz.ntmps91
 go_wp2_with fail
 generalize ((w.alloc (.cells #[.pointer p.q,.int .i64 p.n] 108)).alloc (.cells #[.int .i64 x1,.int .i64 x2] 29)).alloc (.cells #[.pointer none,.int .i64 0] 108) = w1 at *;obtain ⟨a,ha⟩:=exq (w.heap.size);rw [← ha] at HF ⊢;have HA:=hdz ha;clear ha;have f0:=HF.out.h.c0;have f1:=HF.out.h.c1;have f2:=HF.out.e.c0;have f3:=HF.out.e.c1;have n1:¬ a = a + 1 + 1:=by omega
 have n2:¬ a + 1 + 1 = a:=by omega
 have n3:¬ a + 1 = a + 1 + 1:=by omega
 have n4:¬ a + 1 + 1 = a + 1:=by omega
 go_region_held3 (fun w' => w'.cell? ⟨a,0,none⟩ = some (.pointer p.q) ∧ w'.cell? ⟨a,1,none⟩ = some (.int .i64 p.n) ∧ w'.cell? ⟨a + 1,0,none⟩ = some (.int .i64 x1) ∧ w'.cell? ⟨a + 1,1,none⟩ = some (.int .i64 x2)) (go_keep)
  (first | (go_at_call 116;((with_reducible refine (ahead_any mo c (m + 1) (leafT (x1,x2)) h.ts p5 p _ (by have:=HN.out;have h9:bSize h.ts = h.size:=rfl;rw [leafT_size];omega) K5.out.mt (by have:=HN.out;omega) (by have:=HN.out;omega) (by have:=HN.out;omega) (by have:=HN.out;omega) (HH.out.kps K5.out.kp K5.out.bt.size) T5.out (leaf_hok (x1,x2)) (leaf_bin (x1,x2)) (fun _ _ => Nat.zero_le _)).mono ?_);rintro e w6 ⟨p6,rfl,ht6,hm6,hb6⟩;have F6:=hdz (F5.out.bt hb6 K5.out.mt);have K6:=hdz (K5.out.turn hm6 hb6 node_ne);have T6:=hdz ht6;have k0:=F6.out.h.c0;have k1:=F6.out.h.c1;have k2:=F6.out.e.c0;have k3:=F6.out.e.c1;have r6:=F6.out.r.c0;have r7:=F6.out.r.c1;have z6:=F6.out.r.z0;have z7:=F6.out.r.z1;clear ht6 hm6 hb6)) | (go_at_call 117;((with_reducible refine (leaf_any mo c m (x1,x2) _ KK.out.drew.mt (by have:=HN.out;omega) (by have:=HN.out;omega)).mono ?_);rintro e w5 ⟨p5,rfl,ht5,hm5,hb5⟩;have F5:=hdz ((HF.out.stay ((Below.refl _ _).drew)).bt hb5 KK.out.drew.mt);have K5:=hdz (KK.out.drew.turn hm5 hb5 node_ne);have T5:=hdz ht5;have g0:=F5.out.h.c0;have g1:=F5.out.h.c1;have g2:=F5.out.e.c0;have g3:=F5.out.e.c1;clear ht5 hm5 hb5)))
 go_wp2_with fail
 have s0:=(F6.out.r.set (.pointer p6.q) (.int .i64 p6.n)).c0;have s1:=(F6.out.r.set (.pointer p6.q) (.int .i64 p6.n)).c1;have hk:=K6.out.put2 F6.out.r heapT_ne (by decide) (by have:=HA.out;omega) (.pointer p6.q) (.int .i64 p6.n);exact bodyPost_ret (v:=hp p6) (by simp [results,Tryz.results91,go_sem,s0,s1]) rfl ⟨p6,rfl,by rw [HI.out.1];exact T6.out.set2 F6.out.r heapT_ne _ _,by rw [HI.out.2];exact hk.mt,hk.bt⟩
def minV (t:Lh):Value := .tuple #[el t.min.1,.bool t.min.2]
theorem drop_least {t:Tre} {r:List Tre}:∃ u us,(t :: r).drop (leastI (t :: r)) = u :: us ∧ u.x = rootAt (t :: r) (leastI (t :: r)) ∧ kidsAt (t :: r) (leastI (t :: r)) = u.ks.list.reverse ∧ (t :: r).drop (leastI (t :: r) + 1) = us ∧ u ∈ t :: r:=by
 have hl:=leastI_lt (l:=t :: r) (by simp);have hg:(t :: r)[leastI (t :: r)]? = some (t :: r)[leastI (t :: r)]:=List.getElem?_eq_getElem hl;refine ⟨(t :: r)[leastI (t :: r)],(t :: r).drop (leastI (t :: r) + 1),List.drop_eq_getElem_cons hl,?_,?_,rfl,List.getElem_mem hl⟩
 ·unfold rootAt;rw [hg]
 ·unfold kidsAt;rw [hg]
theorem bSize_reverse (l:List Tre):bSize l.reverse = bSize l:=by
 induction l with
 | nil => rfl
 | cons t r ih => rw [List.reverse_cons,bSize_app,ih];simp [bSize];omega
theorem bSize_list:∀ ks:Wood,bSize ks.list = ks.size
 | .nil => rfl
 | .cons x bs ks r => by simp only [Wood.list,bSize,Wood.size,bSize_list r,Tre.size]
theorem size_in {l:List Tre} {t:Tre} (ht:t ∈ l):t.size ≤ bSize l:=bSize_mem ht
theorem rest_size {l:List Tre} {i:Nat} (h:i < l.length):bSize (restAt l i) ≤ bSize l:=by
 have h1:=(restAt_all h).length_eq;rw [bAll_length,List.length_append,bAll_length] at h1;omega
theorem pop_parts {l:List Tre} {i:Nat} (h:i < l.length):bSize (kidsAt l i) + bSize (restAt l i) < bSize l:=by
 have h1:=(restAt_all h).length_eq;have hg:l[i]? = some l[i]:=List.getElem?_eq_getElem h;have hk:kidsAt l i = (l[i]).ks.list.reverse:=by unfold kidsAt;rw [hg]
 rw [bAll_length,List.length_append,bAll_length,Tre.all_length] at h1;rw [hk,bSize_reverse,bSize_list];have h9:(l[i]).size = 1 + (l[i]).bs.length + (l[i]).ks.size:=rfl;omega
theorem rest_ok {l:List Tre} (h:bOk l) (i:Nat):bOk (restAt l i):=⟨fun u hu => h.hok u (restAt_mem hu),fun u hu => h.bin u (restAt_mem hu),restAt_rise h.rise⟩
theorem kids_ok {u:Tre} (h1:u.hok) (h2:u.bin):bOk u.ks.list.reverse:=⟨fun v hv => Wood.list_hok h1.2 v (by simpa using hv),fun v hv => (Wood.list_bin h2.2 v (by simpa using hv)).1,Wood.list_rise h2.2⟩
theorem min_none (mo:Option Nat) (c m:Int) (p:HP) (w:World) (hm:MAt w mo c m) (h0:0 ≤ c) (h1:c < 1152921504606846976) (h:LAt w .nil p):Calls Tryz.prog 358 #[hp p,mAddr mo] w fun e w' => e = .returned (minV .nil) ∧ MAt w' mo (c + Lh.nil.tellN) m ∧ Bt mo w w':=by
 have hb1:Below w.heap.size w ((w.alloc (.cells #[.pointer p.q,.int .i64 p.n] 108)).alloc (.cells #[.int .i64 0,.int .i64 0] 29)):=((Below.refl _ w).alloc (Nat.le_refl _) _).alloc (by simp) _;have bH:=(Box2.new w 108 (.pointer p.q) (.int .i64 p.n)).alloc (.cells #[.int .i64 0,.int .i64 0] 29);have bE:=Box2.new (w.alloc (.cells #[.pointer p.q,.int .i64 p.n] 108)) 29 (.int .i64 0) (.int .i64 0);simp only [World.size_alloc] at bE;have HL:=hdz (show LAt _ ⟨[]⟩ p from h.stay hb1);have KK:=hdz ((Trk.refl (N:=NodeT) hm).stay hb1);have HB:=hdz (anz bH bE);have HN:=hdz (anz h0 h1);obtain ⟨k,hk⟩:=exq (leastI ([]));have HK:=hdz (show k = leastI ([]:List Tre) ∧ k < 2147483648 ∧ ([]:List Tre).drop k = [] from ⟨hk,by rw [hk];decide,by simp⟩);clear h hm hb1 bH bE h0 h1 hk;go_enter Tryz.func358,Tryz.ntmps358
 go_wp2_with fail
 generalize (w.alloc (.cells #[.pointer p.q,.int .i64 p.n] 108)).alloc (.cells #[.int .i64 0,.int .i64 0] 29) = w1 at *;obtain ⟨a,ha⟩:=exq (w.heap.size);rw [← ha] at HB ⊢;have HA:=hdz (Nat.le_of_eq ha.symm);clear ha;have f0:=HB.out.1.c0;have f1:=HB.out.1.c1;have hfd:=field_h
 go_region_held3 (fun w' => w'.cell? ⟨a,0,none⟩ = some (.pointer p.q) ∧ w'.cell? ⟨a,1,none⟩ = some (.int .i64 p.n)) (go_keep)
  (first | (go_at_call 141;((with_reducible refine (first_0 L3.out).mono ?_);rintro e w4 ⟨rfl,hb4⟩;have K4:=hdz (K3.out.stay hb4);have B4:=hdz (anz (B3.out.1.stay hb4) (B3.out.2.stay hb4));have f40:=B4.out.1.c0;have f41:=B4.out.1.c1;clear hb4)) | (go_at_call 147;((with_reducible refine (drop_h L2.out k HK.out.2.1).mono ?_);rintro e w3 ⟨p3,rfl,ht3,hb3⟩;have K3:=hdz (K2.out.stay hb3);have L3:=hdz (show LAt w3 ⟨[]⟩ p3 from HK.out.2.2 ▸ ht3);have B3:=hdz (anz (B2.out.1.stay hb3) (B2.out.2.stay hb3));have f30:=B3.out.1.c0;have f31:=B3.out.1.c1;clear ht3 hb3)) | (go_at_call 362;((with_reducible refine (place_any mo c m ⟨[]⟩ p _ KK.out.drew.mt HN.out.1 HN.out.2 (HL.out.stay ((Below.refl _ _).drew))).mono ?_);rintro e w2 ⟨rfl,hm2,hb2⟩;rw [show leastI (Lh.mk ([])).ts = k from HK.out.1.symm];have K2:=hdz (KK.out.drew.turn hm2 hb2 node_ne);have L2:=hdz ((HL.out.stay ((Below.refl _ _).drew)).bt hb2 KK.out.drew.mt);have B2:=hdz (anz ((HB.out.1.stay ((Below.refl _ _).drew)).bt hb2 KK.out.drew.mt (by decide)) ((HB.out.2.stay ((Below.refl _ _).drew)).bt hb2 KK.out.drew.mt (by decide)));have f20:=B2.out.1.c0;have f21:=B2.out.1.c1;clear hm2 hb2)))
 have z0:=B4.out.2.z0;have z1:=B4.out.2.z1;have y0:=B4.out.2.c0;have y1:=B4.out.2.c1;have s0:=(B4.out.2.set (.int .i64 0) (.int .i64 0)).c0;have s1:=(B4.out.2.set (.int .i64 0) (.int .i64 0)).c1;go_wp2_with fail
 have hk:=K4.out.put2 B4.out.2 elemT_ne (by decide) (by have:=HA.out;omega) (.int .i64 0) (.int .i64 0);exact bodyPost_ret (v:=minV .nil) (by simp [results,Tryz.results358,go_sem,s0,s1,minV,Lh.min,Lh.nil,bMin]) rfl ⟨rfl,hk.mt,hk.bt⟩
theorem min_some_any (mo:Option Nat) (c m:Int) (t:Tre) (r:List Tre) (p:HP) (w:World) (hm:MAt w mo c m) (h0:0 ≤ c) (h1:c < 1152921504606846976) (h:LAt w ⟨t :: r⟩ p):Calls Tryz.prog 358 #[hp p,mAddr mo] w fun e w' => e = .returned (minV ⟨t :: r⟩) ∧ MAt w' mo (c + (Lh.mk (t :: r)).tellN) m ∧ Bt mo w w':=by
 have hb1:Below w.heap.size w ((w.alloc (.cells #[.pointer p.q,.int .i64 p.n] 108)).alloc (.cells #[.int .i64 0,.int .i64 0] 29)):=((Below.refl _ w).alloc (Nat.le_refl _) _).alloc (by simp) _;have bH:=(Box2.new w 108 (.pointer p.q) (.int .i64 p.n)).alloc (.cells #[.int .i64 0,.int .i64 0] 29);have bE:=Box2.new (w.alloc (.cells #[.pointer p.q,.int .i64 p.n] 108)) 29 (.int .i64 0) (.int .i64 0);simp only [World.size_alloc] at bE;have HL:=hdz (show LAt _ ⟨t :: r⟩ p from h.stay hb1);have KK:=hdz ((Trk.refl (N:=NodeT) hm).stay hb1);have HB:=hdz (anz bH bE);have HN:=hdz (anz h0 h1);obtain ⟨k,hk⟩:∃ k,k = leastI (t :: r):=⟨_,rfl⟩;obtain ⟨u,us,hu1,hu2, -, -, -⟩:=drop_least (t:=t) (r:=r);have hlen:=h.len;have hlt:=leastI_lt (l:=t :: r) (by simp);change (t :: r).length < _ at hlen;have HK:=hdz (show k = leastI (t :: r) ∧ k < 2147483648 ∧ (t :: r).drop k = u :: us ∧ minV ⟨t :: r⟩ = .tuple #[el u.x,.bool true] from ⟨hk,by omega,by rw [hk];exact hu1,by rw [hu2];rfl⟩);clear hu1 hu2 hlen hlt;clear h hm hb1 bH bE h0 h1 hk;go_enter Tryz.func358,Tryz.ntmps358
 go_wp2_with fail
 generalize (w.alloc (.cells #[.pointer p.q,.int .i64 p.n] 108)).alloc (.cells #[.int .i64 0,.int .i64 0] 29) = w1 at *;obtain ⟨a,ha⟩:=exq (w.heap.size);rw [← ha] at HB ⊢;have HA:=hdz (Nat.le_of_eq ha.symm);clear ha;have f0:=HB.out.1.c0;have f1:=HB.out.1.c1;have hfd:=field_h
 go_region_held3 (fun w' => w'.cell? ⟨a,0,none⟩ = some (.pointer p.q) ∧ w'.cell? ⟨a,1,none⟩ = some (.int .i64 p.n)) (go_keep)
  (first | (go_at_call 141;(obtain ⟨fa,hfa,hc⟩:=first_h L3.out);((with_reducible refine hc.mono ?_);rintro e w4 ⟨rfl,hb4⟩;have K4:=hdz (K3.out.stay hb4);have T4:=hdz (hfa.stay hb4);have B4:=hdz (anz (B3.out.1.stay hb4) (B3.out.2.stay hb4));have f40:=B4.out.1.c0;have f41:=B4.out.1.c1;clear hb4 hfa hc)) | (go_at_call 147;((with_reducible refine (drop_h L2.out k HK.out.2.1).mono ?_);rintro e w3 ⟨p3,rfl,ht3,hb3⟩;have K3:=hdz (K2.out.stay hb3);have L3:=hdz (show LAt w3 ⟨u :: us⟩ p3 from HK.out.2.2.1 ▸ ht3);have B3:=hdz (anz (B2.out.1.stay hb3) (B2.out.2.stay hb3));have f30:=B3.out.1.c0;have f31:=B3.out.1.c1;clear ht3 hb3)) | (go_at_call 362;((with_reducible refine (place_any mo c m ⟨t :: r⟩ p _ KK.out.drew.mt HN.out.1 HN.out.2 (HL.out.stay ((Below.refl _ _).drew))).mono ?_);rintro e w2 ⟨rfl,hm2,hb2⟩;rw [show leastI (Lh.mk (t :: r)).ts = k from HK.out.1.symm];have K2:=hdz (KK.out.drew.turn hm2 hb2 node_ne);have L2:=hdz ((HL.out.stay ((Below.refl _ _).drew)).bt hb2 KK.out.drew.mt);have B2:=hdz (anz ((HB.out.1.stay ((Below.refl _ _).drew)).bt hb2 KK.out.drew.mt (by decide)) ((HB.out.2.stay ((Below.refl _ _).drew)).bt hb2 KK.out.drew.mt (by decide)));have f20:=B2.out.1.c0;have f21:=B2.out.1.c1;clear hm2 hb2)))
 go_wp2_with fail
 ((with_reducible refine (root_any fa (some u) _ T4.out).mono ?_);rintro e w5 ⟨rfl,hb5⟩);obtain ⟨⟨y1,y2⟩,ubs,uks⟩:=u;rw [show rootV (some ⟨(y1,y2),ubs,uks⟩) = .tuple #[el (y1,y2),.bool true] from rfl];have B5:=hdz (B4.out.2.stay hb5);have K5:=hdz (K4.out.stay hb5);have z0:=B5.out.z0;have z1:=B5.out.z1;have r0:=B5.out.c0;have r1:=B5.out.c1;have s0:=(B5.out.set (.int .i64 y1) (.int .i64 y2)).c0;have s1:=(B5.out.set (.int .i64 y1) (.int .i64 y2)).c1;clear hb5;go_wp2_with fail
 have hk:=K5.out.put2 B5.out elemT_ne (by decide) (by have:=HA.out;omega) (.int .i64 y1) (.int .i64 y2);exact bodyPost_ret (v := .tuple #[el (y1,y2),.bool true]) (by simp [results,Tryz.results358,go_sem,s0,s1]) rfl ⟨by rw [HK.out.2.2.2],hk.mt,hk.bt⟩
theorem min_any (mo:Option Nat) (c m:Int) (t:Lh) (p:HP) (w:World) (hm:MAt w mo c m) (h0:0 ≤ c) (h1:c < 1152921504606846976) (h:LAt w t p):Calls Tryz.prog 358 #[hp p,mAddr mo] w fun e w' => e = .returned (minV t) ∧ MAt w' mo (c + t.tellN) m ∧ Bt mo w w':=by
 obtain ⟨ts⟩:=t
 cases ts with
 | nil => exact min_none mo c m p w hm h0 h1 h
 | cons t r => exact min_some_any mo c m t r p w hm h0 h1 h
def Popped (mo:Option Nat) (c m:Int) (t:Lh) (is:Bool) (w:World) (e:Ending) (w':World):Prop:=∃ p:HP,e = .returned (.tuple #[.agg #[.pointer p.q,.int .i64 p.n],.bool is]) ∧ LAt w' t p ∧ MAt w' mo c m ∧ Bt mo w w'
theorem pop_none (mo:Option Nat) (c m:Int) (p:HP) (w:World) (hm:MAt w mo c m) (h0:0 ≤ c) (h1:c < 288230376151711744) (h2:0 ≤ m) (h3:m < 576460752303423487) (h:LAt w .nil p):Calls Tryz.prog 359 #[hp p,mAddr mo] w (Popped mo c m .nil false w):=by
 have hb1:Below w.heap.size w ((w.alloc (.cells #[.pointer p.q,.int .i64 p.n] 108)).alloc (.cells #[.pointer none,.int .i64 0] 108)):=((Below.refl _ w).alloc (Nat.le_refl _) _).alloc (by simp) _;have bH:=(Box2.new w 108 (.pointer p.q) (.int .i64 p.n)).alloc (.cells #[.pointer none,.int .i64 0] 108);have bE:=Box2.new (w.alloc (.cells #[.pointer p.q,.int .i64 p.n] 108)) 108 (.pointer none) (.int .i64 0);simp only [World.size_alloc] at bE;have HL:=hdz (show LAt _ ⟨[]⟩ p from h.stay hb1);have KK:=hdz ((Trk.refl (N:=NodeT) hm).stay hb1);have HB:=hdz (anz bH bE);have HN:=hdz (anz h0 (anz h1 (anz h2 h3)));obtain ⟨k,hk⟩:=exq (leastI ([]));have HK:=hdz (show k = leastI ([]:List Tre) ∧ k < 2147483648 ∧ ([]:List Tre).drop k = [] from ⟨hk,by rw [hk];decide,by simp⟩);clear h hm hb1 bH bE h0 h1 h2 h3 hk;go_enter Tryz.func359,Tryz.ntmps359
 go_wp2_with fail
 generalize (w.alloc (.cells #[.pointer p.q,.int .i64 p.n] 108)).alloc (.cells #[.pointer none,.int .i64 0] 108) = w1 at *;obtain ⟨a,ha⟩:=exq (w.heap.size);rw [← ha] at HB ⊢;have HA:=hdz (Nat.le_of_eq ha.symm);clear ha;((with_reducible refine (place_any mo c m ⟨[]⟩ p _ KK.out.mt HN.out.1 (by have:=HN.out;omega) HL.out).mono ?_);rintro e w2 ⟨rfl,hm2,hb2⟩);rw [show leastI (Lh.mk ([])).ts = k from HK.out.1.symm];have K2:=hdz (KK.out.turn hm2 hb2 node_ne);have L2:=hdz (HL.out.bt hb2 KK.out.mt);have B2:=hdz (anz (HB.out.1.bt hb2 KK.out.mt (by decide)) (HB.out.2.bt hb2 KK.out.mt (by decide)));have f0:=B2.out.1.c0;have f1:=B2.out.1.c1;clear hm2 hb2 HL KK HB;go_wp2_with fail
 ((with_reducible refine (drop_h L2.out k HK.out.2.1).mono ?_);rintro e w3 ⟨p3,rfl,ht3,hb3⟩);have hb4:Below w2.heap.size w2 (w3.alloc (.cells #[.pointer p3.q,.int .i64 p3.n] 106)):=hb3.alloc hb3.size (.cells #[.pointer p3.q,.int .i64 p3.n] 106);have bV:=Box2.new w3 106 (.pointer p3.q) (.int .i64 p3.n);have L3:=hdz (show LAt (w3.alloc (.cells #[.pointer p3.q,.int .i64 p3.n] 106)) ⟨[]⟩ p3 from LAt.stay (show LAt w3 ⟨[]⟩ p3 from HK.out.2.2 ▸ ht3) (bqA _));have L2b:=hdz (L2.out.stay hb4);have K3:=hdz (K2.out.stay hb4);have HVL:=hdz (Nat.lt_of_lt_of_le B2.out.2.lt hb3.size);have B3:=hdz (anz (B2.out.1.stay hb4) (anz (B2.out.2.stay hb4) bV));clear ht3 hb3 hb4 bV f0 f1 K2 L2 B2;go_wp2_with fail
 generalize w3.alloc (.cells #[.pointer p3.q,.int .i64 p3.n] 106) = w4 at *;obtain ⟨v,hv⟩:=exq (w3.heap.size);rw [← hv] at B3 HVL ⊢;clear hv;((with_reducible refine (first_0 L3.out).mono ?_);rintro e w5 ⟨rfl,hb5⟩);have K5:=hdz (K3.out.stay hb5);have B5:=hdz (B3.out.2.1.stay hb5);have z0:=B5.out.z0;have z1:=B5.out.z1;have r0:=B5.out.c0;have r1:=B5.out.c1;have s0:=(B5.out.set (.pointer none) (.int .i64 0)).c0;have s1:=(B5.out.set (.pointer none) (.int .i64 0)).c1;clear hb5;go_wp2_with fail
 have hk:=K5.out.put2 B5.out heapT_ne (by decide) (by have:=HA.out;omega) (.pointer none) (.int .i64 0);exact bodyPost_ret (v := .tuple #[hp ⟨none,0⟩,.bool false]) (by simp [results,Tryz.results359,go_sem,s0,s1]) rfl ⟨⟨none,0⟩,rfl,LAt.nil _,by simpa [Lh.tellN,Lh.nil] using hk.mt,hk.bt⟩
theorem pop_some_any (mo:Option Nat) (c m:Int) (t:Tre) (r:List Tre) (p:HP) (w:World) (hm:MAt w mo c m) (h0:0 ≤ c) (h1:c < 288230376151711744) (h2:0 ≤ m) (h3:m < 576460752303423487) (h:LAt w ⟨t :: r⟩ p):Calls Tryz.prog 359 #[hp p,mAddr mo] w (Popped mo (c + ((Lh.mk (t :: r)).popN + (Lh.mk (t :: r)).tellN:Nat)) (m + (Lh.mk (t :: r)).popN) (Lh.mk (t :: r)).pop true w):=by
 have hb1:Below w.heap.size w ((w.alloc (.cells #[.pointer p.q,.int .i64 p.n] 108)).alloc (.cells #[.pointer none,.int .i64 0] 108)):=((Below.refl _ w).alloc (Nat.le_refl _) _).alloc (by simp) _;have bH:=(Box2.new w 108 (.pointer p.q) (.int .i64 p.n)).alloc (.cells #[.pointer none,.int .i64 0] 108);have bE:=Box2.new (w.alloc (.cells #[.pointer p.q,.int .i64 p.n] 108)) 108 (.pointer none) (.int .i64 0);simp only [World.size_alloc] at bE;have HL:=hdz (show LAt _ ⟨t :: r⟩ p from h.stay hb1);have KK:=hdz ((Trk.refl (N:=NodeT) hm).stay hb1);have HB:=hdz (anz bH bE);have HN:=hdz (anz h0 (anz h1 (anz h2 h3)));obtain ⟨k,hk⟩:∃ k,k = leastI (t :: r):=⟨_,rfl⟩;obtain ⟨u,us,hu1,hu2,hu3,hu4,hu5⟩:=drop_least (t:=t) (r:=r);have hlen:=h.len;have hsm:=h.small;have hok:bOk (t :: r):=h.right;have hlt:=leastI_lt (l:=t :: r) (by simp);have htl:(Lh.mk (t :: r)).tellN ≤ (Lh.mk (t :: r)).size:=tellN_size _;have hpl:(Lh.mk (t :: r)).popN ≤ (Lh.mk (t :: r)).size:=popN_size;change (t :: r).length < _ at hlen;change bSize (t :: r) < _ at hsm;have hus:=size_in hu5;have hrs:=rest_size hlt;have HK:=hdz (show k = leastI (t :: r) ∧ k < 2147483648 ∧ (t :: r).drop k = u :: us from ⟨hk,by omega,by rw [hk];exact hu1⟩);have HU:=hdz (show kidsAt (t :: r) k = u.ks.list.reverse ∧ (t :: r).take k ++ us = restAt (t :: r) k ∧ k ≤ (t :: r).length ∧ u.size ≤ bSize (t :: r) ∧ bSize (restAt (t :: r) k) ≤ bSize (t :: r) ∧ (t :: r).length < 268435456 ∧ bSize (t :: r) < 268435456 from ⟨hk ▸ hu3,by unfold restAt;rw [hk,hu4],by omega,hus,hk ▸ hrs,hlen,hsm⟩);have HPS:=hdz (show bSize (kidsAt (t :: r) k) + bSize (restAt (t :: r) k) < 268435456 from by have h8:=pop_parts hlt;rw [← hk] at h8;omega);have HO:=hdz (anz hok (anz (hok.hok u hu5) (hok.bin u hu5)));have HPO:=hdz (show (Lh.mk (t :: r)).pop = ⟨bmeld (kidsAt (t :: r) k) (restAt (t :: r) k)⟩ ∧ (Lh.mk (t :: r)).popN = bmeldN (kidsAt (t :: r) k) (restAt (t :: r) k) ∧ (Lh.mk (t :: r)).tellN < 268435456 ∧ (Lh.mk (t :: r)).popN < 268435456 from ⟨by rw [hk];rfl,by rw [hk];rfl,Nat.lt_of_le_of_lt htl hsm,Nat.lt_of_le_of_lt hpl hsm⟩);clear hu1 hu2 hu3 hu4 hu5 hlen hlt hsm hok htl hpl hus hrs;clear h hm hb1 bH bE h0 h1 h2 h3 hk;go_enter Tryz.func359,Tryz.ntmps359
 go_wp2_with fail
 generalize (w.alloc (.cells #[.pointer p.q,.int .i64 p.n] 108)).alloc (.cells #[.pointer none,.int .i64 0] 108) = w1 at *;obtain ⟨a,ha⟩:=exq (w.heap.size);rw [← ha] at HB ⊢;have HA:=hdz (Nat.le_of_eq ha.symm);clear ha;((with_reducible refine (place_any mo c m ⟨t :: r⟩ p _ KK.out.mt HN.out.1 (by have:=HN.out;omega) HL.out).mono ?_);rintro e w2 ⟨rfl,hm2,hb2⟩);rw [show leastI (Lh.mk (t :: r)).ts = k from HK.out.1.symm];have K2:=hdz (KK.out.turn hm2 hb2 node_ne);have L2:=hdz (HL.out.bt hb2 KK.out.mt);have B2:=hdz (anz (HB.out.1.bt hb2 KK.out.mt (by decide)) (HB.out.2.bt hb2 KK.out.mt (by decide)));have f0:=B2.out.1.c0;have f1:=B2.out.1.c1;clear hm2 hb2 HL KK HB;go_wp2_with fail
 ((with_reducible refine (drop_h L2.out k HK.out.2.1).mono ?_);rintro e w3 ⟨p3,rfl,ht3,hb3⟩);have hb4:Below w2.heap.size w2 (w3.alloc (.cells #[.pointer p3.q,.int .i64 p3.n] 106)):=hb3.alloc hb3.size (.cells #[.pointer p3.q,.int .i64 p3.n] 106);have bV:=Box2.new w3 106 (.pointer p3.q) (.int .i64 p3.n);have L3:=hdz (show LAt (w3.alloc (.cells #[.pointer p3.q,.int .i64 p3.n] 106)) ⟨u :: us⟩ p3 from LAt.stay (show LAt w3 ⟨u :: us⟩ p3 from HK.out.2.2 ▸ ht3) (bqA _));have L2b:=hdz (L2.out.stay hb4);have K3:=hdz (K2.out.stay hb4);have HVL:=hdz (Nat.lt_of_lt_of_le B2.out.2.lt hb3.size);have B3:=hdz (anz (B2.out.1.stay hb4) (anz (B2.out.2.stay hb4) bV));clear ht3 hb3 hb4 bV f0 f1 K2 L2 B2;go_wp2_with fail
 generalize w3.alloc (.cells #[.pointer p3.q,.int .i64 p3.n] 106) = w4 at *;obtain ⟨v,hv⟩:=exq (w3.heap.size);rw [← hv] at B3 HVL ⊢;clear hv;obtain ⟨fa,hfa,hc⟩:=first_h L3.out;have HC:=hdz hc;have TF:=hdz hfa;clear hc hfa;((with_reducible refine HC.out.mono ?_);rintro e w5 ⟨rfl,hb5⟩);have K5:=hdz (K3.out.stay hb5);have B5:=hdz (anz (B3.out.1.stay hb5) (anz (B3.out.2.1.stay hb5) (B3.out.2.2.stay hb5)));have L5:=hdz (anz (show LAt w5 ⟨t :: r⟩ p from L2b.out.stay hb5) (anz (L3.out.stay hb5) (TF.out.stay hb5)));clear hb5 HC TF K3 B3 L3 L2b;go_wp2_with fail
 refine wp_after (R:=fun x x' w' => ∃ (u27 u28 u29 u30 u31 u32 u33 u34 u35:Value) (g:Nat) (p9:HP),x' = ((((((((((x.put (some 27) u27).put (some 28) u28).put (some 29) u29).put (some 30) u30).put (some 31) u31).put (some 32) u32).put (some 33) u33).put (some 34) u34).put (some 35) u35).put (some 10) (.pointer (some ⟨g,0,none⟩))) ∧ Below w5.heap.size w5 w' ∧ w5.heap.size ≤ g ∧ Box2 w' g 106 (.pointer p9.q) (.int .i64 p9.n) ∧ LAt w' ⟨restAt (t :: r) k⟩ p9) ?_ ?_
 ·have HS:=hdz (fun (w':World) (hz:Below w5.heap.size w5 w') => (show w'.cell? ⟨a,0,none⟩ = some (.pointer p.q) ∧ w'.cell? ⟨a,1,none⟩ = some (.int .i64 p.n) ∧ w'.cell? ⟨v,0,none⟩ = some (.pointer p3.q) ∧ w'.cell? ⟨v,1,none⟩ = some (.int .i64 p3.n) from ⟨(B5.out.1.stay hz).c0,(B5.out.1.stay hz).c1,(B5.out.2.2.stay hz).c0,(B5.out.2.2.stay hz).c1⟩));have hB:=(Below.refl w5.heap.size w5).drew;have hLa:=L5.out.1.stay ((Below.refl _ _).drew);have hLb:=L5.out.2.1.stay ((Below.refl _ _).drew);have hSZ:=hB.size;refine wp_region_noPanic ?_;refine wp_region_held_drew (S:=fun w' => w'.cell? ⟨a,0,none⟩ = some (.pointer p.q) ∧ w'.cell? ⟨a,1,none⟩ = some (.int .i64 p.n) ∧ w'.cell? ⟨v,0,none⟩ = some (.pointer p3.q) ∧ w'.cell? ⟨v,1,none⟩ = some (.int .i64 p3.n)) (by kernel_rfl) (HS.out _ hB) (fun hH => ?_);generalize hwd:w5.drew = wd at *;clear hwd;refine tk 0 hH ?_;try simp only [bkz]
  refine tk 1 hH ?_;try simp only [bkz]
  refine tk 3 hH ?_;try simp only [bkz]
  refine tk 6 hH ?_;try simp only [bkz]
  refine rd2 2 9 (fun K hK => ?_) (fun K hK => ?_)
  ·go_simp;go_at_call 223
   have hmt:MAt wd (none:Option Nat) 0 0:=trivial;(with_reducible refine (all_h hLa hmt).mono ?_);rintro e w6 ⟨A,n6,c6,rfl,hr, -,hb⟩;replace hLb:=hLb.stay hb;replace hB:=hB.trans (hb.mono hSZ);replace hSZ:=Nat.le_trans hSZ hb.size;clear hb hLa;have c1:k ≤ n6:=by have:=hr.len;have:=HU.out;omega
   have c2:k ≤ c6:=Nat.le_trans c1 hr.cap;have c3:(0:Int) ≤ (k:Int):=by omega
   have c4:(k:Int) ≤ (c6:Int):=by omega
   have c5:(k:Int) ≤ (n6:Int):=by omega
   refine hK.out _ _ ?_ (fun hH2 => ?_)
   ·exact HS.out _ hB
   clear hK K hH;have hH:=hH2;clear hH2;try simp only [bkz]
   refine tk 4 hH ?_;try simp only [bkz]
   refine rd2 5 9 (fun K hK => ?_) (fun K hK => ?_)
   ·go_simp;go_at_call 312
    obtain ⟨ps,hr1,hr2⟩:=hr.take k;(with_reducible refine (of_h hr1 hr2 (by rw [List.length_take];have:=HU.out;omega) (Nat.lt_of_le_of_lt (bSize_take_le _ _) HU.out.2.2.2.2.2.2) (sub_ok HO.out.1 (List.take_sublist k _))).mono ?_);rintro e w7 ⟨p7,rfl,ht7,hb⟩;replace hLb:=hLb.stay hb;replace hB:=hB.trans (hb.mono hSZ);replace hSZ:=Nat.le_trans hSZ hb.size;clear hb hr hr1 hr2;refine hK.out _ _ ?_ (fun hH2 => ?_)
    ·exact HS.out _ hB
    clear hK K hH;have hH:=hH2;clear hH2;try simp only [bkz]
    refine rd2 7 9 (fun K hK => ?_) (fun K hK => ?_)
    ·go_simp;go_at_call 144
     (with_reducible refine (restL_h hLb).mono ?_);rintro e w8 ⟨p8,rfl,ht8,hb⟩;replace ht7:=ht7.stay hb;replace ht8:LAt w8 ⟨us⟩ p8:=ht8;replace hB:=hB.trans (hb.mono hSZ);replace hSZ:=Nat.le_trans hSZ hb.size;clear hb hLb;refine hK.out _ _ ?_ (fun hH2 => ?_)
     ·exact HS.out _ hB
     clear hK K hH;have hH:=hH2;clear hH2;try simp only [bkz]
     refine rd2 8 9 (fun K hK => ?_) (fun K hK => ?_)
     focus
      go_simp;go_at_call 313
      (with_reducible refine (join_h ht7 ht8 (by rw [HU.out.2.1];have:=HU.out;omega) (by rw [HU.out.2.1];exact rest_ok HO.out.1 k)).mono ?_);rintro e w9 ⟨p9,rfl,ht9,hb⟩;rw [HU.out.2.1] at ht9;replace hB:=hB.trans (hb.mono hSZ);replace hSZ:=Nat.le_trans hSZ hb.size;clear hb ht7 ht8;refine hK.out _ _ ?_ (fun hH2 => ?_)
      ·exact HS.out _ hB
      clear hK K hH;have hH:=hH2;clear hH2;try simp only [bkz]
      refine rd1 9 (fun K hK => ?_);go_simp;refine hK.out _ _ ?_ (fun hH2 => ?_)
      ·exact HS.out _ (hB.alloc hSZ _)
      clear hK K hH;have hH:=hH2;clear hH2;have hv:=Box2.new w9 106 (.pointer none) (.int .i64 0);have hV:w5.heap.size ≤ w9.heap.size:=hSZ;replace ht9:=ht9.stay (bqA (.cells #[.pointer none,.int .i64 0] 106));replace hB:=hB.alloc hSZ (.cells #[.pointer none,.int .i64 0] 106);replace hSZ:=Nat.le_trans hSZ (show w9.heap.size ≤ (w9.alloc (.cells #[.pointer none,.int .i64 0] 106)).heap.size by simp);obtain ⟨g,hge⟩:=exq (w9.heap.size);rw [← hge] at hv hV ⊢;clear hge;generalize w9.alloc (.cells #[.pointer none,.int .i64 0] 106) = wA at *
     rotate_left
     focus
      go_simp;refine hK.out _ _ ?_ (fun hH2 => ?_)
      ·exact HS.out _ (hB.alloc hSZ _)
      clear hK K hH;have hH:=hH2;clear hH2;have hv:=Box2.new w8 106 (.pointer none) (.int .i64 0);have hV:w5.heap.size ≤ w8.heap.size:=hSZ;replace ht7:=ht7.stay (bqA (.cells #[.pointer none,.int .i64 0] 106));replace ht8:=ht8.stay (bqA (.cells #[.pointer none,.int .i64 0] 106));replace hB:=hB.alloc hSZ (.cells #[.pointer none,.int .i64 0] 106);replace hSZ:=Nat.le_trans hSZ (show w8.heap.size ≤ (w8.alloc (.cells #[.pointer none,.int .i64 0] 106)).heap.size by simp);obtain ⟨g,hge⟩:=exq (w8.heap.size);rw [← hge] at hv hV ⊢;clear hge;generalize w8.alloc (.cells #[.pointer none,.int .i64 0] 106) = wA at *;try simp only [bkz]
      refine rd1 8 (fun K hK => ?_);go_simp;go_at_call 313
      (with_reducible refine (join_h ht7 ht8 (by rw [HU.out.2.1];have:=HU.out;omega) (by rw [HU.out.2.1];exact rest_ok HO.out.1 k)).mono ?_);rintro e w9 ⟨p9,rfl,ht9,hb⟩;rw [HU.out.2.1] at ht9;replace hB:=hB.trans (hb.mono hSZ);replace hSZ:=Nat.le_trans hSZ hb.size;replace hv:=hv.stay hb;clear hb ht7 ht8;refine hK.out _ _ ?_ (fun hH2 => ?_)
      ·exact HS.out _ hB
      clear hK K hH;have hH:=hH2;clear hH2
     rotate_left
     all_goals
      try simp only [bkz]
      have vc0:=hv.c0;have vc1:=hv.c1;have vz0:=hv.z0;have vz1:=hv.z1;refine rd1 10 (fun K hK => ?_);go_simp;refine hK.out _ _ ?_ (fun hH2 => ?_)
      ·exact HS.out _ (below_set2 hB hV _ _)
      clear hK K hH;have hH:=hH2;clear hH2;have hv2:=hv.set (.pointer p9.q) (.int .i64 p9.n);have ht6:=ht9.set2 hv listT_ne (.pointer p9.q) (.int .i64 p9.n);have hB2:=below_set2 hB hV (.pointer p9.q) (.int .i64 p9.n);clear vc0 vc1 vz0 vz1;try simp only [bkz]
      refine dn ?_;clear hH;exact ⟨rfl,_,_,_,_,_,_,_,_,_,g,p9,by (try simp only [bkz]);rfl,hB2,hV,hv2,ht6⟩
    ·go_simp;refine hK.out _ _ ?_ (fun hH2 => ?_)
     ·exact HS.out _ (hB.alloc hSZ _)
     clear hK K hH;have hH:=hH2;clear hH2;have hv:=Box2.new w7 106 (.pointer none) (.int .i64 0);have hV:w5.heap.size ≤ w7.heap.size:=hSZ;replace ht7:=ht7.stay (bqA (.cells #[.pointer none,.int .i64 0] 106));replace hLb:=hLb.stay (bqA (.cells #[.pointer none,.int .i64 0] 106));replace hB:=hB.alloc hSZ (.cells #[.pointer none,.int .i64 0] 106);replace hSZ:=Nat.le_trans hSZ (show w7.heap.size ≤ (w7.alloc (.cells #[.pointer none,.int .i64 0] 106)).heap.size by simp);obtain ⟨g,hge⟩:=exq (w7.heap.size);rw [← hge] at hv hV ⊢;clear hge;generalize w7.alloc (.cells #[.pointer none,.int .i64 0] 106) = wA at *;try simp only [bkz]
     refine rd1 7 (fun K hK => ?_);go_simp;go_at_call 144
     (with_reducible refine (restL_h hLb).mono ?_);rintro e w8 ⟨p8,rfl,ht8,hb⟩;replace ht7:=ht7.stay hb;replace ht8:LAt w8 ⟨us⟩ p8:=ht8;replace hB:=hB.trans (hb.mono hSZ);replace hSZ:=Nat.le_trans hSZ hb.size;replace hv:=hv.stay hb;clear hb hLb;refine hK.out _ _ ?_ (fun hH2 => ?_)
     ·exact HS.out _ hB
     clear hK K hH;have hH:=hH2;clear hH2;try simp only [bkz]
     refine rd1 8 (fun K hK => ?_);go_simp;go_at_call 313
     (with_reducible refine (join_h ht7 ht8 (by rw [HU.out.2.1];have:=HU.out;omega) (by rw [HU.out.2.1];exact rest_ok HO.out.1 k)).mono ?_);rintro e w9 ⟨p9,rfl,ht9,hb⟩;rw [HU.out.2.1] at ht9;replace hB:=hB.trans (hb.mono hSZ);replace hSZ:=Nat.le_trans hSZ hb.size;replace hv:=hv.stay hb;clear hb ht7 ht8;refine hK.out _ _ ?_ (fun hH2 => ?_)
     ·exact HS.out _ hB
     clear hK K hH;have hH:=hH2;clear hH2;try simp only [bkz]
     have vc0:=hv.c0;have vc1:=hv.c1;have vz0:=hv.z0;have vz1:=hv.z1;refine rd1 10 (fun K hK => ?_);go_simp;refine hK.out _ _ ?_ (fun hH2 => ?_)
     ·exact HS.out _ (below_set2 hB hV _ _)
     clear hK K hH;have hH:=hH2;clear hH2;have hv2:=hv.set (.pointer p9.q) (.int .i64 p9.n);have ht6:=ht9.set2 hv listT_ne (.pointer p9.q) (.int .i64 p9.n);have hB2:=below_set2 hB hV (.pointer p9.q) (.int .i64 p9.n);clear vc0 vc1 vz0 vz1;try simp only [bkz]
     refine dn ?_;clear hH;exact ⟨rfl,_,_,_,_,_,_,_,_,_,g,p9,by (try simp only [bkz]);rfl,hB2,hV,hv2,ht6⟩
   ·go_simp;refine hK.out _ _ ?_ (fun hH2 => ?_)
    ·exact HS.out _ (hB.alloc hSZ _)
    clear hK K hH;have hH:=hH2;clear hH2;have hv:=Box2.new w6 106 (.pointer none) (.int .i64 0);have hV:w5.heap.size ≤ w6.heap.size:=hSZ;replace hr:=hr.stay (bqA (.cells #[.pointer none,.int .i64 0] 106));replace hLb:=hLb.stay (bqA (.cells #[.pointer none,.int .i64 0] 106));replace hB:=hB.alloc hSZ (.cells #[.pointer none,.int .i64 0] 106);replace hSZ:=Nat.le_trans hSZ (show w6.heap.size ≤ (w6.alloc (.cells #[.pointer none,.int .i64 0] 106)).heap.size by simp);obtain ⟨g,hge⟩:=exq (w6.heap.size);rw [← hge] at hv hV ⊢;clear hge;generalize w6.alloc (.cells #[.pointer none,.int .i64 0] 106) = wA at *;try simp only [bkz]
    refine rd1 5 (fun K hK => ?_);go_simp;go_at_call 312
    obtain ⟨ps,hr1,hr2⟩:=hr.take k;(with_reducible refine (of_h hr1 hr2 (by rw [List.length_take];have:=HU.out;omega) (Nat.lt_of_le_of_lt (bSize_take_le _ _) HU.out.2.2.2.2.2.2) (sub_ok HO.out.1 (List.take_sublist k _))).mono ?_);rintro e w7 ⟨p7,rfl,ht7,hb⟩;replace hLb:=hLb.stay hb;replace hB:=hB.trans (hb.mono hSZ);replace hSZ:=Nat.le_trans hSZ hb.size;replace hv:=hv.stay hb;clear hb hr hr1 hr2;refine hK.out _ _ ?_ (fun hH2 => ?_)
    ·exact HS.out _ hB
    clear hK K hH;have hH:=hH2;clear hH2;try simp only [bkz]
    refine rd1 7 (fun K hK => ?_);go_simp;go_at_call 144
    (with_reducible refine (restL_h hLb).mono ?_);rintro e w8 ⟨p8,rfl,ht8,hb⟩;replace ht7:=ht7.stay hb;replace ht8:LAt w8 ⟨us⟩ p8:=ht8;replace hB:=hB.trans (hb.mono hSZ);replace hSZ:=Nat.le_trans hSZ hb.size;replace hv:=hv.stay hb;clear hb hLb;refine hK.out _ _ ?_ (fun hH2 => ?_)
    ·exact HS.out _ hB
    clear hK K hH;have hH:=hH2;clear hH2;try simp only [bkz]
    refine rd1 8 (fun K hK => ?_);go_simp;go_at_call 313
    (with_reducible refine (join_h ht7 ht8 (by rw [HU.out.2.1];have:=HU.out;omega) (by rw [HU.out.2.1];exact rest_ok HO.out.1 k)).mono ?_);rintro e w9 ⟨p9,rfl,ht9,hb⟩;rw [HU.out.2.1] at ht9;replace hB:=hB.trans (hb.mono hSZ);replace hSZ:=Nat.le_trans hSZ hb.size;replace hv:=hv.stay hb;clear hb ht7 ht8;refine hK.out _ _ ?_ (fun hH2 => ?_)
    ·exact HS.out _ hB
    clear hK K hH;have hH:=hH2;clear hH2;try simp only [bkz]
    have vc0:=hv.c0;have vc1:=hv.c1;have vz0:=hv.z0;have vz1:=hv.z1;refine rd1 10 (fun K hK => ?_);go_simp;refine hK.out _ _ ?_ (fun hH2 => ?_)
    ·exact HS.out _ (below_set2 hB hV _ _)
    clear hK K hH;have hH:=hH2;clear hH2;have hv2:=hv.set (.pointer p9.q) (.int .i64 p9.n);have ht6:=ht9.set2 hv listT_ne (.pointer p9.q) (.int .i64 p9.n);have hB2:=below_set2 hB hV (.pointer p9.q) (.int .i64 p9.n);clear vc0 vc1 vz0 vz1;try simp only [bkz]
    refine dn ?_;clear hH;exact ⟨rfl,_,_,_,_,_,_,_,_,_,g,p9,by (try simp only [bkz]);rfl,hB2,hV,hv2,ht6⟩
  ·go_simp;refine hK.out _ _ ?_ (fun hH2 => ?_)
   ·exact HS.out _ (hB.alloc hSZ _)
   clear hK K hH;have hH:=hH2;clear hH2;have hv:=Box2.new wd 106 (.pointer none) (.int .i64 0);have hV:w5.heap.size ≤ wd.heap.size:=hSZ;replace hLa:=hLa.stay (bqA (.cells #[.pointer none,.int .i64 0] 106));replace hLb:=hLb.stay (bqA (.cells #[.pointer none,.int .i64 0] 106));replace hB:=hB.alloc hSZ (.cells #[.pointer none,.int .i64 0] 106);replace hSZ:=Nat.le_trans hSZ (show wd.heap.size ≤ (wd.alloc (.cells #[.pointer none,.int .i64 0] 106)).heap.size by simp);obtain ⟨g,hge⟩:=exq (wd.heap.size);rw [← hge] at hv hV ⊢;clear hge;generalize wd.alloc (.cells #[.pointer none,.int .i64 0] 106) = wA at *;try simp only [bkz]
   refine rd1 2 (fun K hK => ?_);go_simp;go_at_call 223
   have hmt:MAt wA (none:Option Nat) 0 0:=trivial;(with_reducible refine (all_h hLa hmt).mono ?_);rintro e w6 ⟨A,n6,c6,rfl,hr, -,hb⟩;replace hLb:=hLb.stay hb;replace hB:=hB.trans (hb.mono hSZ);replace hSZ:=Nat.le_trans hSZ hb.size;replace hv:=hv.stay hb;clear hb hLa;have c1:k ≤ n6:=by have:=hr.len;have:=HU.out;omega
   have c2:k ≤ c6:=Nat.le_trans c1 hr.cap;have c3:(0:Int) ≤ (k:Int):=by omega
   have c4:(k:Int) ≤ (c6:Int):=by omega
   have c5:(k:Int) ≤ (n6:Int):=by omega
   refine hK.out _ _ ?_ (fun hH2 => ?_)
   ·exact HS.out _ hB
   clear hK K hH;have hH:=hH2;clear hH2;try simp only [bkz]
   refine tk 4 hH ?_;try simp only [bkz]
   refine rd1 5 (fun K hK => ?_);go_simp;go_at_call 312
   obtain ⟨ps,hr1,hr2⟩:=hr.take k;(with_reducible refine (of_h hr1 hr2 (by rw [List.length_take];have:=HU.out;omega) (Nat.lt_of_le_of_lt (bSize_take_le _ _) HU.out.2.2.2.2.2.2) (sub_ok HO.out.1 (List.take_sublist k _))).mono ?_);rintro e w7 ⟨p7,rfl,ht7,hb⟩;replace hLb:=hLb.stay hb;replace hB:=hB.trans (hb.mono hSZ);replace hSZ:=Nat.le_trans hSZ hb.size;replace hv:=hv.stay hb;clear hb hr hr1 hr2;refine hK.out _ _ ?_ (fun hH2 => ?_)
   ·exact HS.out _ hB
   clear hK K hH;have hH:=hH2;clear hH2;try simp only [bkz]
   refine rd1 7 (fun K hK => ?_);go_simp;go_at_call 144
   (with_reducible refine (restL_h hLb).mono ?_);rintro e w8 ⟨p8,rfl,ht8,hb⟩;replace ht7:=ht7.stay hb;replace ht8:LAt w8 ⟨us⟩ p8:=ht8;replace hB:=hB.trans (hb.mono hSZ);replace hSZ:=Nat.le_trans hSZ hb.size;replace hv:=hv.stay hb;clear hb hLb;refine hK.out _ _ ?_ (fun hH2 => ?_)
   ·exact HS.out _ hB
   clear hK K hH;have hH:=hH2;clear hH2;try simp only [bkz]
   refine rd1 8 (fun K hK => ?_);go_simp;go_at_call 313
   (with_reducible refine (join_h ht7 ht8 (by rw [HU.out.2.1];have:=HU.out;omega) (by rw [HU.out.2.1];exact rest_ok HO.out.1 k)).mono ?_);rintro e w9 ⟨p9,rfl,ht9,hb⟩;rw [HU.out.2.1] at ht9;replace hB:=hB.trans (hb.mono hSZ);replace hSZ:=Nat.le_trans hSZ hb.size;replace hv:=hv.stay hb;clear hb ht7 ht8;refine hK.out _ _ ?_ (fun hH2 => ?_)
   ·exact HS.out _ hB
   clear hK K hH;have hH:=hH2;clear hH2;try simp only [bkz]
   have vc0:=hv.c0;have vc1:=hv.c1;have vz0:=hv.z0;have vz1:=hv.z1;refine rd1 10 (fun K hK => ?_);go_simp;refine hK.out _ _ ?_ (fun hH2 => ?_)
   ·exact HS.out _ (below_set2 hB hV _ _)
   clear hK K hH;have hH:=hH2;clear hH2;have hv2:=hv.set (.pointer p9.q) (.int .i64 p9.n);have ht6:=ht9.set2 hv listT_ne (.pointer p9.q) (.int .i64 p9.n);have hB2:=below_set2 hB hV (.pointer p9.q) (.int .i64 p9.n);clear vc0 vc1 vz0 vz1;try simp only [bkz]
   refine dn ?_;clear hH;exact ⟨rfl,_,_,_,_,_,_,_,_,_,g,p9,by (try simp only [bkz]);rfl,hB2,hV,hv2,ht6⟩
 rintro x' w6 ⟨u27,u28,u29,u30,u31,u32,u33,u34,u35,g,p9,rfl,hB,hG,hg,ht⟩;try simp only [bkz]
 have K6:=hdz (K5.out.stay hB);have B6:=hdz (anz (B5.out.2.1.stay hB) hg);have L6:=hdz (anz ht (L5.out.2.2.stay hB));clear hB hG hg ht K5 B5 L5;go_wp2_with fail
 ((with_reducible refine (kids_any fa (some u) _ L6.out.2 (by have:=HU.out;simp only [osize];omega)).mono ?_);rintro e w7 ⟨v7,ps,rfl,hk7,hown,hb⟩);obtain ⟨A7,c7,rfl,hr7,hc7, -, -⟩:=hown.form;have hts:=(KAt.ts hk7).kp (Kpt.below hb);have K7:=hdz (K6.out.stay hb);have B7:=hdz (anz (B6.out.1.stay hb) (B6.out.2.stay hb));have L7:=hdz (L6.out.1.stay hb);have HR7:=hdz (anz (show Row1 Lt.one w7 A7 ps from hr7) hts);have hpl:=hts.length;have hkl:u.ks.list.length ≤ u.size:=by rw [Wood.list_len];have:=u.rank_lt;exact Nat.le_of_lt this
 obtain ⟨n7,hn7⟩:=exq (ps.length);rw [← hn7];have HN7:=hdz (show n7 = ps.length ∧ n7 < 268435456 from ⟨hn7,by have:=HU.out;have h9:ps.length = u.ks.list.length:=hpl;omega⟩);clear hk7 hown hr7 hb hts K6 B6 L6 hn7 hpl hkl;go_wp2_with fail
 ((with_reducible refine (Lt.of_l HN7.out.1 HR7.out.1 (by have:=HN7.out;omega)).mono ?_);rintro e w8 ⟨q8,n8,rfl,hl8,hb⟩);have K8:=hdz (K7.out.stay hb);have B8:=hdz (anz (B7.out.1.stay hb) (B7.out.2.stay hb));have L8:=hdz (anz (L7.out.stay hb) (anz hl8 (HR7.out.2.kp (Kpt.below hb))));clear hl8 hb K7 B7 L7 HR7;go_wp2_with fail
 ((with_reducible refine (Lt.rev_l L8.out.2.1).mono ?_);rintro e w9 ⟨q9,n9,rfl,hl9,hb⟩)
 have hkids:LAt w9 ⟨kidsAt (t :: r) k⟩ ⟨q9,(n9:Int)⟩:=by
  rw [HU.out.1];exact LAt.of hl9 ((L8.out.2.2.kp (Kpt.below hb)).reverse) (by rw [bSize_reverse,bSize_list];have:=HU.out;have h9:u.size = 1 + u.bs.length + u.ks.size:=rfl;omega) (kids_ok HO.out.2.1 HO.out.2.2)
 have hA:=(Below.refl w9.heap.size w9).alloc (Nat.le_refl _) (.cells #[.pointer q9,.int .i64 (n9:Int)] 108);have K9:=hdz ((K8.out.stay hb).stay hA);have B9:=hdz (anz ((B8.out.1.stay hb).stay hA) (anz ((B8.out.2.stay hb).stay hA) (Box2.new w9 108 (.pointer q9) (.int .i64 (n9:Int)))));have L9:=hdz (anz ((L8.out.1.stay hb).stay hA) (hkids.stay hA));clear hl9 hb K8 B8 L8 hkids hA;have c0:=B9.out.2.2.c0;have c1:=B9.out.2.2.c1;have d0:=B9.out.2.1.c0;have d1:=B9.out.2.1.c1;go_wp2_with fail
 generalize w9.alloc (.cells #[.pointer q9,.int .i64 (n9:Int)] 108) = wB at *;generalize w9.heap.size = b9 at *;have HMM:=meld_any mo ⟨kidsAt (t :: r) k⟩ ⟨restAt (t :: r) k⟩ (c + (Lh.mk (t :: r)).tellN) m ⟨q9,(n9:Int)⟩ p9 wB (by show bSize (kidsAt (t :: r) k) + bSize (restAt (t :: r) k) < _;exact HPS.out) K9.out.mt (by have:=HN.out;omega) (by have:=HN.out;have:=HPO.out;omega) HN.out.2.2.1 (by have:=HN.out;omega) L9.out.2 L9.out.1;((with_reducible refine HMM.mono ?_);rintro e w10 ⟨p10,rfl,ht10,hm10,hb10⟩);have R10:=hdz (B9.out.1.bt hb10 K9.out.mt (by decide));have K10:=hdz (K9.out.turn hm10 hb10 node_ne);have L10:=hdz ht10;have z0:=R10.out.z0;have z1:=R10.out.z1;have r0:=R10.out.c0;have r1:=R10.out.c1;have s0:=(R10.out.set (.pointer p10.q) (.int .i64 p10.n)).c0;have s1:=(R10.out.set (.pointer p10.q) (.int .i64 p10.n)).c1;clear ht10 hm10 hb10 c0 c1 d0 d1;go_wp2_with fail
 have hk:=K10.out.put2 R10.out heapT_ne (by decide) (by have:=HA.out;omega) (.pointer p10.q) (.int .i64 p10.n);have e1:c + (((Lh.mk (t :: r)).popN + (Lh.mk (t :: r)).tellN:Nat):Int) = c + ((Lh.mk (t :: r)).tellN:Nat) + (meldN ⟨kidsAt (t :: r) k⟩ ⟨restAt (t :: r) k⟩:Nat):=by have h9:meldN ⟨kidsAt (t :: r) k⟩ ⟨restAt (t :: r) k⟩ = bmeldN (kidsAt (t :: r) k) (restAt (t :: r) k):=rfl;rw [HPO.out.2.1,h9];omega
 have e2:m + ((Lh.mk (t :: r)).popN:Nat) = m + ((meldN ⟨kidsAt (t :: r) k⟩ ⟨restAt (t :: r) k⟩:Nat):Int):=by rw [HPO.out.2.1];rfl
 exact bodyPost_ret (v := .tuple #[hp p10,.bool true]) (by simp [results,Tryz.results359,go_sem,s0,s1]) rfl ⟨p10,rfl,by rw [HPO.out.1];exact L10.out.set2 R10.out heapT_ne _ _,by rw [e1,e2];exact hk.mt,hk.bt⟩
theorem pop_any (mo:Option Nat) (c m:Int) (h:Lh) (p:HP) (w:World) (_hs:h.size < 268435456) (hm:MAt w mo c m) (h0:0 ≤ c) (h1:c < 288230376151711744) (h2:0 ≤ m) (h3:m < 576460752303423487)
  (hh:LAt w h p):Calls Tryz.prog 359 #[hp p,mAddr mo] w (Popped mo (c + (h.popN + h.tellN:Nat)) (m + h.popN) h.pop h.some w):=by
 obtain ⟨ts⟩:=h
 cases ts with
 | nil =>
  refine (pop_none mo c m p w hm h0 h1 h2 h3 hh).mono fun e w' ⟨p',he,ht,hm',hb⟩ => ⟨p',he,ht,?_,hb⟩;have e1:(Lh.mk []).popN = 0:=rfl;have e2:(Lh.mk []).tellN = 0:=rfl;rw [e1,e2];simpa using hm'
 | cons t r => exact pop_some_any mo c m t r p w hm h0 h1 h2 h3 hh
end Go.Proofs.YtmeodbjlmjpnbaaGreat.Bi.Hp
namespace Go.Proofs.YtmeodbjlmjpnbaaGreat.Bi.Hp
open Go.Sort Go.RowKit
theorem putN_take (xs:List (Int × Int)) (k:Nat) (h:k < xs.length):putN .nil (xs.take (k + 1)) = putN .nil (xs.take k) + meldN (.one xs[k]) (ofL (xs.take k)):=by
 rw [List.take_succ_eq_append_getElem h,putN_snoc];rfl
theorem ofL_take (xs:List (Int × Int)) (k:Nat) (h:k < xs.length):ofL (xs.take (k + 1)) = (ofL (xs.take k)).insert xs[k]:=by
 rw [List.take_succ_eq_append_getElem h,ofL_snoc]
theorem putN_small (xs:List (Int × Int)) (h:xs.length < 16777216):putN .nil xs < 562949953421312:=by
 have h1:=putN_le xs .nil;have h0:Lh.nil.size = 0:=rfl;rw [h0] at h1;have h2:xs.length * (0 + xs.length + 1) ≤ 16777216 * 16777216:=Nat.mul_le_mul (by omega) (by omega);omega
theorem of_any (mo:Option Nat) (c m:Int) (A:Option Addr) (xs:List (Int × Int)) (cap:Nat) (w:World) (hm:MAt w mo c m) (h0:0 ≤ c) (h1:c < 288230376151711744) (h2:0 ≤ m) (h3:m < 288230376151711744) (hr:Row w A xs) (hn:xs.length < 16777216)
  (hne:0 < xs.length → ∀ b,mo = some b → ∀ q,A = some q → q.block ≠ b) :
  Calls Tryz.prog 43 #[mAddr mo,.slice A xs.length cap] w (Gave mo (c + putN .nil xs) (m + (xs.length:Nat) + putN .nil xs) (ofL xs) w):=by
 have K1:Trk NodeT mo w c m ((w.alloc (.cells #[.pointer none,.int .i64 0] 108)).alloc (.cells #[.pointer none,.int .i64 0] 108)):=((Trk.refl hm).alloc _).alloc _;have e1:Box2 ((w.alloc (.cells #[.pointer none,.int .i64 0] 108)).alloc (.cells #[.pointer none,.int .i64 0] 108)) w.heap.size 108 (.pointer none) (.int .i64 0):=(Box2.new w 108 _ _).alloc _
 have e2:Box2 ((w.alloc (.cells #[.pointer none,.int .i64 0] 108)).alloc (.cells #[.pointer none,.int .i64 0] 108)) (w.heap.size + 1) 108 (.pointer none) (.int .i64 0):=by
  have:=Box2.new (w.alloc (.cells #[.pointer none,.int .i64 0] 108)) 108 (.pointer none) (.int .i64 0);simpa only [World.size_alloc] using this
 have HR:=hdz (anz hr hne);have HN:=hdz (anz h0 (anz h1 (anz h2 h3)));have HE:=hdz (anz e1 e2);have KK:=hdz K1;obtain ⟨n,hnn⟩:=exq (xs.length);rw [← hnn] at hn ⊢;have HX:=hdz hnn;clear hr hne h0 h1 h2 h3 K1 hm e1 e2 hnn;go_enter Tryz.func43,Tryz.ntmps43
 go_wp2_with fail
 generalize (w.alloc (.cells #[.pointer none,.int .i64 0] 108)).alloc (.cells #[.pointer none,.int .i64 0] 108) = w1 at *;obtain ⟨a,ha⟩:=exq (w.heap.size);rw [← ha] at HE ⊢;have HA:=hdz ha;clear ha;go_loopg [10] n (fun k i wr => ∃ (j:Nat) (p:HP),i = .int .i64 (j:Int) ∧ j + k = n ∧ Box2 wr a 108 (.pointer none) (.int .i64 0) ∧ Box2 wr (a + 1) 108 (.pointer p.q) (.int .i64 p.n) ∧ LAt wr (ofL (xs.take j)) p ∧ Trk NodeT mo w (c + putN .nil (xs.take j)) (m + (j:Nat) + putN .nil (xs.take j)) wr)
 case atStart => exact ⟨0,⟨none,0⟩,rfl,by omega,HE.out.1,HE.out.2,LAt.nil _,by simpa [putN] using KK.out⟩
 case round =>
  obtain ⟨j,p,rfl,hj,hra,hrb,ht,hk⟩:=hrel;by_cases hlt:j < n
  ·have hjx:j < xs.length:=by rw [← HX.out];exact hlt
   obtain ⟨b,o,rfl,hc⟩:=HR.out.1 (by omega);have hx:=row_at hc j hjx;have hne:=fun bb (eb:mo = some bb) => HR.out.2 (by omega) bb eb _ rfl;have x0:=hk.bt.cell hx.1 hne;have x1:=hk.bt.cell hx.2 hne;have hp:=putN_small (xs.take j) (by rw [List.length_take];omega);have hsz:(ofL (xs.take j)).size = j:=by rw [ofL_size,List.length_take];omega
   have eP:=putN_take xs j hjx;have eO:=ofL_take xs j hjx;generalize xs[j] = x at *;obtain ⟨y1,y2⟩:=x;have q1:(j:Int) < (n:Int):=by omega
   have q2:(0:Int) ≤ (j:Int):=by omega
   have h1c:=hrb.c0;have h1d:=hrb.c1;have h2c:=(hrb.alloc (.cells #[.int .i64 y1,.int .i64 y2] 29)).c0;have h2d:=(hrb.alloc (.cells #[.int .i64 y1,.int .i64 y2] 29)).c1;have X:=hdz (anz hra (anz hrb (anz ht (anz hk (anz eP (anz eO (anz hp (anz hsz hj))))))));clear hra hrb ht hk eP eO hp hsz hj hc hx hne hjx;go_wp2_with fail
   clear h1c h2c h1d h2d x0 x1;((with_reducible refine (insert_any mo _ _ (ofL (xs.take j)) (y1,y2) p _ (by rw [X.out.2.2.2.2.2.2.2.1];omega) (X.out.2.2.2.1.alloc _).mt (by have:=HN.out;omega) (by have:=HN.out;have:=X.out.2.2.2.2.2.2.1;omega) (by have:=HN.out;omega) (by have:=HN.out;have:=X.out.2.2.2.2.2.2.1;omega) (X.out.2.2.1.stay (bqA _))).mono ?_);rintro e w2 ⟨p2,rfl,ht2,hm2,hb2⟩);obtain ⟨hra,hrb,ht,hk,eP,eO,hp,hsz,hj⟩:=X.out;have hk2:=(hk.alloc (.cells #[.int .i64 y1,.int .i64 y2] 29)).turn hm2 hb2 node_ne;have ra2:=(hra.alloc (.cells #[.int .i64 y1,.int .i64 y2] 29)).bt hb2 (hk.alloc _).mt (by decide);have rb2:=(hrb.alloc (.cells #[.int .i64 y1,.int .i64 y2] 29)).bt hb2 (hk.alloc _).mt (by decide);have e1:c + ((putN .nil (xs.take (j + 1)):Nat):Int) = c + (putN .nil (xs.take j):Nat) + (meldN (.one (y1,y2)) (ofL (xs.take j)):Nat):=by rw [eP];omega
   have e2:m + ((j + 1:Nat):Int) + (putN .nil (xs.take (j + 1)):Nat) = m + (j:Nat) + (putN .nil (xs.take j):Nat) + 1 + (meldN (.one (y1,y2)) (ofL (xs.take j)):Nat):=by rw [eP];omega
   rw [← e1,← e2] at hk2;rw [← eO] at ht2;have z2:=rb2.z0;have z3:=rb2.z1;have r2:=rb2.c0;have r3:=rb2.c1;have Y:=hdz (anz (ra2.aside (g:=a + 1) (by omega) (.pointer p2.q) (.int .i64 p2.n)) (anz (rb2.set (.pointer p2.q) (.int .i64 p2.n)) (anz (ht2.set2 rb2 heapT_ne (.pointer p2.q) (.int .i64 p2.n)) (hk2.put2 rb2 heapT_ne (by decide) (by rw [← HA.out];omega) (.pointer p2.q) (.int .i64 p2.n)))));clear hra hrb ht hk eP eO hp hsz hk2 ra2 rb2 e1 e2 ht2 hm2 hb2 X;go_wp2_with fail
   go_roundg (n - 1 - j)
   case measure => omega
   case rel => exact ⟨j + 1,p2,by congr 1,by omega,Y.out.1,Y.out.2.1,Y.out.2.2.1,Y.out.2.2.2⟩
  ·have hjn:j = n:=by omega
   subst hjn;rw [HX.out,List.take_length] at ht hk;rw [← HX.out] at hk;have h1c:=hrb.c0;have h1d:=hrb.c1;have r6:=hra.c0;have r7:=hra.c1;have z6:=hra.z0;have z7:=hra.z1;have s0:=(hra.set (.pointer p.q) (.int .i64 p.n)).c0;have s1:=(hra.set (.pointer p.q) (.int .i64 p.n)).c1;have hk2:=hk.put2 hra heapT_ne (by decide) (by rw [← HA.out];omega) (.pointer p.q) (.int .i64 p.n);have X:=hdz (anz (ht.set2 hra heapT_ne (.pointer p.q) (.int .i64 p.n)) hk2);clear hra hrb ht hk hk2 hlt hj;go_wp2_with fail
   exact bodyPost_ret (v:=hp p) (by simp [results,Tryz.results43,go_sem,s0,s1]) rfl ⟨p,rfl,X.out.1,X.out.2.mt,X.out.2.bt⟩
def PoppedN (t:Lh) (is:Bool) (w:World) (e:Ending) (w':World):Prop:=∃ p:HP,e = .returned (.tuple #[.agg #[.pointer p.q,.int .i64 p.n],.bool is]) ∧ LAt w' t p ∧ Below w.heap.size w w'
theorem popN (t:Lh) (p:HP) (w:World) (h:LAt w t p) (hs:t.size < 16777216):Calls Tryz.prog 359 #[hp p,.pointer none] w (PoppedN t.pop t.some w) :=
 (pop_any none 0 0 t p w (by omega) trivial (by decide) (by decide) (by decide) (by decide) h).mono fun _ _ ⟨p,he,ht,_,hb⟩ => ⟨p,he,ht,hb.toBelow⟩
end Go.Proofs.YtmeodbjlmjpnbaaGreat.Bi.Hp
namespace Go.Proofs.YtmeodbjlmjpnbaaGreat.Bi.Hp
open Go.Sort Go.RowKit
theorem min_srt {h:Lh} (hg:h.good):h.min = (hd (srt h.all),decide (0 < (srt h.all).length)):=by
 obtain ⟨ts⟩:=h
 cases ts with
 | nil => rw [show (Lh.mk []).all = [] from rfl,srt_nil];rfl
 | cons t r =>
  have hs:(Lh.mk (t :: r)).min.2 = true:=rfl;rw [ok_srt (h:=⟨t :: r⟩) hg.ok hs];exact Prod.ext rfl hs
theorem some_srt {h:Lh} (hg:h.good):h.some = decide (0 < (srt h.all).length):=(show h.some = h.min.2 by exact (min_some h).symm).trans (congrArg Prod.snd (min_srt hg))
theorem size_srt (h:Lh):(srt h.all).length = h.size:=by rw [srt_length,Lh.all_length]
theorem insK (h:Lh) (x:Int × Int) (q:Option Addr) (n:Int) (w:World) (hs:h.size < 16777216) (hh:LAt w h ⟨q,n⟩) :
  Calls Tryz.prog 267 #[.agg #[.pointer q,.int .i64 n],.pointer none,el x] w fun e w' => ∃ (q':Option Addr) (n':Int),e = .returned (.iface 179 (.agg #[.pointer q',.int .i64 n'])) ∧ LAt w' (h.insert x) ⟨q',n'⟩ ∧ Below w.heap.size w w':=by
 obtain ⟨x1,x2⟩:=x;have hm:∀ (k:Nat) (w:World),(method (k + 1) 108 (.agg #[.pointer q,.int .i64 n]) "Insert").run Tryz.prog w = .ok (91,.agg #[.pointer q,.int .i64 n]) w:=fun _ _ => by kernel_rfl
 have hb1:Below w.heap.size w ((w.alloc (.cells #[.pointer q,.int .i64 n] 179)).alloc (.cells #[.int .i64 x1,.int .i64 x2] 29)):=(bqA _).alloc (by simp) _;have H:=hdz (anz (hh.stay hb1) hb1);have HS:=hdz hs;clear hh hb1 hs;go_enter Tryz.func267,Tryz.ntmps267
 go_wp2_with fail
 refine (insert_any none 0 0 h (x1,x2) ⟨q,n⟩ _ (by have:=HS.out;omega) trivial (by decide) (by decide) (by decide) (by decide) H.out.1).mono ?_;rintro e w1 ⟨⟨q',n'⟩,rfl,ht, -,hb⟩;have Y:=hdz (anz ht (H.out.2.trans (hb.toBelow.mono H.out.2.size)));clear ht hb;go_wp2_with fail
 refine bodyPost_ret (v := .iface 179 (.agg #[.pointer q',.int .i64 n'])) (by simp [results,Tryz.results267,go_sem]) rfl ⟨q',n',rfl,Y.out.1,Y.out.2⟩
theorem meldK (a b:Lh) (q:Option Addr) (n:Int) (p:Option Addr) (m:Int) (w:World) (hs:a.size + b.size < 16777216) (ha:LAt w a ⟨q,n⟩) (hb:LAt w b ⟨p,m⟩) :
  Calls Tryz.prog 268 #[.agg #[.pointer q,.int .i64 n],.pointer none,.iface 179 (.agg #[.pointer p,.int .i64 m])] w fun e w' => ∃ (q':Option Addr) (n':Int),e = .returned (.tuple #[.iface 179 (.agg #[.pointer q',.int .i64 n']),.bool true]) ∧ LAt w' (meld a b) ⟨q',n'⟩ ∧ Below w.heap.size w w':=by
 have hm:∀ (k:Nat) (w:World),(method (k + 1) 108 (.agg #[.pointer q,.int .i64 n]) "Meld").run Tryz.prog w = .ok (357,.agg #[.pointer q,.int .i64 n]) w:=fun _ _ => by kernel_rfl
 have ht:∀ (w:World),(Instr.typeAssert (.iface 179 (.agg #[.pointer p,.int .i64 m])) 25 179 true).run Tryz.prog w = .ok (.tuple #[.agg #[.pointer p,.int .i64 m],.bool true]) w:=fun _ => by kernel_rfl
 have hb1:Below w.heap.size w ((w.alloc (.cells #[.pointer q,.int .i64 n] 179)).alloc (.cells #[.pointer p,.int .i64 m] 179)):=(bqA _).alloc (by simp) _;have H:=hdz (anz (ha.stay hb1) (anz (hb.stay hb1) hb1));have HS:=hdz hs;clear ha hb hb1 hs;go_enter Tryz.func268,Tryz.ntmps268
 go_wp2_with fail
 refine (meld_any none a b 0 0 ⟨q,n⟩ ⟨p,m⟩ _ (by have:=HS.out;omega) trivial (by decide) (by decide) (by decide) (by decide) H.out.1 H.out.2.1).mono ?_;rintro e w1 ⟨⟨q',n'⟩,rfl,ht, -,hb⟩;have Y:=hdz (anz ht (H.out.2.2.trans (hb.toBelow.mono H.out.2.2.size)));clear ht hb;go_wp2_with fail
 refine bodyPost_ret (v := .tuple #[.iface 179 (.agg #[.pointer q',.int .i64 n']),.bool true]) (by simp [results,Tryz.results268,go_sem]) rfl ⟨q',n',rfl,Y.out.1,Y.out.2⟩
theorem meldNoK (q:Option Addr) (n:Int) (w:World):Calls Tryz.prog 268 #[.agg #[.pointer q,.int .i64 n],.pointer none,.nilIface] w fun e w' => e = .returned (.tuple #[.nilIface,.bool false]) ∧ Below w.heap.size w w':=by
 have hb1:Below w.heap.size w ((w.alloc (.cells #[.pointer q,.int .i64 n] 179)).alloc (.cells #[.pointer none,.int .i64 0] 179)):=(bqA _).alloc (by simp) _;have ht:∀ (w:World),(Instr.typeAssert .nilIface 25 179 true).run Tryz.prog w = .ok (.tuple #[.agg #[.pointer none,.int .i64 0],.bool false]) w:=fun _ => by kernel_rfl
 go_enter Tryz.func268,Tryz.ntmps268
 go_wp2_with fail
 refine bodyPost_ret (v := .tuple #[.nilIface,.bool false]) (by simp [results,Tryz.results268,go_sem]) rfl ⟨rfl,hb1⟩
theorem minK (h:Lh) (q:Option Addr) (n:Int) (w:World) (hg:h.good) (hh:LAt w h ⟨q,n⟩) :
  Calls Tryz.prog 269 #[.agg #[.pointer q,.int .i64 n],.pointer none] w fun e w' => e = .returned (.tuple #[el (hd (srt h.all)),.bool (decide (0 < (srt h.all).length))]) ∧ Below w.heap.size w w':=by
 have hm:∀ (k:Nat) (w:World),(method (k + 1) 108 (.agg #[.pointer q,.int .i64 n]) "Min").run Tryz.prog w = .ok (358,.agg #[.pointer q,.int .i64 n]) w:=fun _ _ => by kernel_rfl
 have hb1:Below w.heap.size w ((w.alloc (.cells #[.pointer q,.int .i64 n] 179)).alloc (.cells #[.int .i64 0,.int .i64 0] 29)):=(bqA _).alloc (by simp) _
 have hv:Box2 ((w.alloc (.cells #[.pointer q,.int .i64 n] 179)).alloc (.cells #[.int .i64 0,.int .i64 0] 29)) (w.heap.size + 1) 29 (.int .i64 0) (.int .i64 0):=by
  have:=Box2.new (w.alloc (.cells #[.pointer q,.int .i64 n] 179)) 29 (.int .i64 0) (.int .i64 0);simpa only [World.size_alloc] using this
 have H:=hdz (anz (hh.stay hb1) (anz hb1 hv));obtain ⟨x,hx⟩:=exq (h.min);obtain ⟨⟨x1,x2⟩,z⟩:=x;have hx2:=hx.trans (min_srt hg);rw [show hd (srt h.all) = (x1,x2) from (congrArg Prod.fst hx2).symm,show decide (0 < (srt h.all).length) = z from (congrArg Prod.snd hx2).symm];have HM:minV h = .tuple #[.agg #[.int .i64 x1,.int .i64 x2],.bool z]:=by unfold minV;rw [← hx]
 have HN:=hdz HM;clear hh hb1 hg hx hx2 HM hv;go_enter Tryz.func269,Tryz.ntmps269
 go_wp2_with fail
 refine (min_any none 0 0 h ⟨q,n⟩ _ trivial (by decide) (by decide) H.out.1).mono ?_;rintro e w1 ⟨he, -,hb0⟩;have hb:=hb0.toBelow;clear hb0;rw [HN.out] at he;subst he;have hv:=H.out.2.2.stay hb;have c0:=hv.c0;have c1:=hv.c1;have z0:=hv.z0;have z1:=hv.z1;have hs:=hv.set (.int .i64 x1) (.int .i64 x2);have k0:=hs.c0;have k1:=hs.c1;have Y:=hdz (H.out.2.1.trans (hb.mono H.out.2.1.size));clear hb hv hs;go_wp2_with fail
 refine bodyPost_ret (v := .tuple #[.agg #[.int .i64 x1,.int .i64 x2],.bool z]) (by simp [results,Tryz.results269,go_sem,k0,k1]) rfl ⟨rfl,(Y.out.setCell (by simp) _).setCell (by simp) _⟩
theorem popK (h:Lh) (q:Option Addr) (n:Int) (w:World) (hs:h.size < 16777216) (hh:LAt w h ⟨q,n⟩) :
  Calls Tryz.prog 270 #[.agg #[.pointer q,.int .i64 n],.pointer none] w fun e w' => ∃ (q':Option Addr) (n':Int),e = .returned (.tuple #[.iface 179 (.agg #[.pointer q',.int .i64 n']),.bool h.some]) ∧ LAt w' h.pop ⟨q',n'⟩ ∧ Below w.heap.size w w':=by
 have hm:∀ (k:Nat) (w:World),(method (k + 1) 108 (.agg #[.pointer q,.int .i64 n]) "Pop").run Tryz.prog w = .ok (359,.agg #[.pointer q,.int .i64 n]) w:=fun _ _ => by kernel_rfl
 have hb1:Below w.heap.size w (w.alloc (.cells #[.pointer q,.int .i64 n] 179)):=bqA _;have H:=hdz (anz (hh.stay hb1) hb1);have HS:=hdz hs;obtain ⟨z,hz⟩:=exq (h.some);rw [← hz];have HZ:=hdz hz;clear hh hb1 hs hz;go_enter Tryz.func270,Tryz.ntmps270
 go_wp2_with fail
 refine (pop_any none 0 0 h ⟨q,n⟩ _ (by have:=HS.out;omega) trivial (by decide) (by decide) (by decide) (by decide) H.out.1).mono ?_;rintro e w1 ⟨⟨q',n'⟩,he,ht, -,hb⟩;rw [← HZ.out] at he;subst he;have Y:=hdz (anz ht trivial);have hT:=H.out.2.trans (hb.toBelow.mono H.out.2.size);have HT:=hdz hT;clear ht hb hT;go_wp2_with fail
 refine bodyPost_ret (v := .tuple #[.iface 179 (.agg #[.pointer q',.int .i64 n']),.bool z]) (by simp [results,Tryz.results270,go_sem]) rfl ⟨q',n',rfl,Y.out.1.stay (bqA _),HT.out.alloc HT.out.size _⟩
theorem sizeK (h:Lh) (q:Option Addr) (n:Int) (w:World) (hh:LAt w h ⟨q,n⟩) :
  Calls Tryz.prog 272 #[.agg #[.pointer q,.int .i64 n]] w fun e w' => e = .returned (.int .i64 (h.size:Nat)) ∧ Below w.heap.size w w':=by
 have hm:∀ (k:Nat) (w:World),(method (k + 1) 108 (.agg #[.pointer q,.int .i64 n]) "Size").run Tryz.prog w = .ok (360,.agg #[.pointer q,.int .i64 n]) w:=fun _ _ => by kernel_rfl
 have hb1:Below w.heap.size w (w.alloc (.cells #[.pointer q,.int .i64 n] 179)):=bqA _;have H:=hdz (anz (hh.stay hb1) hb1);obtain ⟨z,hz⟩:∃ z:Int,z = (h.size:Nat):=⟨_,rfl⟩;rw [← hz];have HZ:=hdz hz;clear hh hb1 hz;go_enter Tryz.func272,Tryz.ntmps272
 go_wp2_with fail
 refine (size_any h ⟨q,n⟩ _ H.out.1).mono ?_;rintro e w1 ⟨he,hb⟩;rw [← HZ.out] at he;subst he;have Y:=hdz (H.out.2.trans (hb.mono H.out.2.size));clear hb;go_wp2_with fail
 refine bodyPost_ret (v := .int .i64 z) (by simp [results,Tryz.results272,go_sem]) rfl ⟨rfl,Y.out⟩
theorem kindK (v:Value) (w:World):Calls Tryz.prog 37 #[.agg #[.iface 179 v]] w fun e w' => e = .returned (.int .i64 2) ∧ Below w.heap.size w w':=by
 have hb1:Below w.heap.size w (w.alloc (.cells #[.iface 179 v] 27)):=bqA _;have h1:∀ (w:World),(Instr.typeAssert (.iface 179 v) 25 177 true).run Tryz.prog w = .ok (.tuple #[.agg #[.pointer none],.bool false]) w:=fun _ => by kernel_rfl
 have h2:∀ (w:World),(Instr.typeAssert (.iface 179 v) 25 179 true).run Tryz.prog w = .ok (.tuple #[v,.bool true]) w:=fun _ => by kernel_rfl
 go_enter Tryz.func37,Tryz.ntmps37
 go_wp2_with fail
 refine bodyPost_ret (v := .int .i64 2) (by simp [results,Tryz.results37,go_sem]) rfl ⟨rfl,hb1⟩
theorem byK (q:Option Addr) (n:Int) (w:World):Calls Tryz.prog 42 #[.agg #[.pointer q,.int .i64 n]] w fun e w' => e = .returned (.agg #[.iface 179 (.agg #[.pointer q,.int .i64 n])]) ∧ Below w.heap.size w w':=by
 have hb1:Below w.heap.size w ((w.alloc (.cells #[.pointer q,.int .i64 n] 108)).alloc (.cells #[.iface 179 (.agg #[.pointer q,.int .i64 n])] 27)):=(bqA _).alloc (by simp) _;go_enter Tryz.func42,Tryz.ntmps42
 go_wp2_with fail
 refine bodyPost_ret (v := .agg #[.iface 179 (.agg #[.pointer q,.int .i64 n])]) (by simp [results,Tryz.results42,go_sem]) rfl ⟨rfl,hb1⟩
theorem ofK (A:Option Addr) (xs:List (Int × Int)) (cap:Nat) (w:World) (hr:Row w A xs) (hn:xs.length < 16777216) :
  Calls Tryz.prog 18 #[.pointer none,.int .i64 2,.slice A xs.length cap] w fun e w' => ∃ (q':Option Addr) (n':Int),e = .returned (.tuple #[.agg #[.iface 179 (.agg #[.pointer q',.int .i64 n'])],.int .i64 0]) ∧ LAt w' (ofL xs) ⟨q',n'⟩ ∧ Below w.heap.size w w':=by
 have hb1:Below w.heap.size w (w.alloc (.cells #[.nilIface] 27)):=bqA _;have H:=hdz (anz (hr.below hb1) hb1);obtain ⟨L,hL⟩:=exq (xs.length);have HL:=hdz (anz hL (hL ▸ hn:L < 16777216));rw [← hL];clear hr hb1 hL hn;go_enter Tryz.func18,Tryz.ntmps18
 go_wp2_with fail
 have hL:=HL.out.1;subst hL;refine (of_any none 0 0 A xs cap _ trivial (by decide) (by decide) (by decide) (by decide) H.out.1 HL.out.2 (fun _ _ e => by cases e)).mono ?_;rintro e w1 ⟨⟨q',n'⟩,rfl,ht, -,hb⟩;have hB:=hb.toBelow;have hF:w1.heap[w.heap.size]? = some (.cells #[.nilIface] 27 (0,0)):=(hB.block _ (by simp)).trans (heap_alloc_new w _);have Y:=hdz (anz ht (anz (H.out.2.trans (hB.mono H.out.2.size)) hF));clear hB hF;clear ht hb;go_wp2_with fail
 refine (byK q' n' _).mono ?_;rintro e w2 ⟨rfl,hb2⟩;have hF:=(hb2.block _ (lt_of_heap Y.out.2.2)).trans Y.out.2.2;have k0:=one_cell hF;have z0:=one_thaw hF;have Z:=hdz (anz (Y.out.1.stay hb2) (anz (Y.out.2.1.trans (hb2.mono Y.out.2.1.size)) hF));clear hb2 hF;have k1:=one_cell (heap_put1 Z.out.2.2 (.iface 179 (.agg #[.pointer q',.int .i64 n'])));go_wp2_with fail
 refine bodyPost_ret (v := .tuple #[.agg #[.iface 179 (.agg #[.pointer q',.int .i64 n'])],.int .i64 0]) (by simp [results,Tryz.results18,go_sem,k1]) rfl ⟨q',n',rfl,Z.out.1.kps (Kpt.set Z.out.2.2 (by unfold NodeT TreeT;decide) 0 _) (by simp [World.setCell]),Z.out.2.1.setCell (Nat.le_refl _) _⟩
theorem nodes_nh {W W':World} (h:Kpt NH W W'):Kpt NodeT W W':=fun b cs t ht => h b cs t (by unfold NodeT TreeT at ht;rcases ht with (rfl | rfl | rfl) | rfl <;> decide)
def At (W:World) (v:Value) (l:List (Int × Int)):Prop:=∃ (q:Option Addr) (n:Int),v = .agg #[.pointer q,.int .i64 n] ∧ ∃ h:Lh,LAt W h ⟨q,n⟩ ∧ h.good ∧ srt h.all = l
theorem kindC:KindC 2 179 267 268 269 270 272 At where
 mI:=fun _ _ _ => by kernel_rfl
 mM:=fun _ _ _ => by kernel_rfl
 mN:=fun _ _ _ => by kernel_rfl
 mP:=fun _ _ _ => by kernel_rfl
 mS:=fun _ _ _ => by kernel_rfl
 cI:=fun _ _ => by kernel_rfl
 cM:=fun _ _ => by kernel_rfl
 cN:=fun _ _ => by kernel_rfl
 cP:=fun _ _ => by kernel_rfl
 cS:=fun _ _ => by kernel_rfl
 stay:=fun ha hb => by
  obtain ⟨q,n,rfl,h,hh,hg,rfl⟩:=ha;exact ⟨q,n,rfl,h,hh.stay hb,hg,rfl⟩
 keep:=fun ha hk hs => by
  obtain ⟨q,n,rfl,h,hh,hg,rfl⟩:=ha;exact ⟨q,n,rfl,h,hh.kps (nodes_nh hk) hs,hg,rfl⟩
 ins:=fun v l x w ha hn hx => by
  obtain ⟨q,n,rfl,h,hh,hg,rfl⟩:=ha;rw [size_srt] at hn;exact (insK h x q n w hn hh).mono fun e w' ⟨q',n',he,ht,hb⟩ => ⟨_,he,⟨q',n',rfl,_,ht,good_insert hg hx,by rw [srt_insert,srt_in]⟩,hb⟩
 meld:=fun v v2 l l2 w ha ha2 hn => by
  obtain ⟨q,n,rfl,h,hh,hg,rfl⟩:=ha;obtain ⟨p,m,rfl,h2,hh2,hg2,rfl⟩:=ha2;rw [size_srt,size_srt] at hn;exact (meldK h h2 q n p m w hn hh hh2).mono fun e w' ⟨q',n',he,ht,hb⟩ => ⟨_,he,⟨q',n',rfl,_,ht,good_meld hg hg2,by rw [srt_meld,srt_two]⟩,hb⟩
 meldNo:=fun v l w ha => by
  obtain ⟨q,n,rfl,h,hh,hg,rfl⟩:=ha;exact meldNoK q n w
 min:=fun v l w ha => by
  obtain ⟨q,n,rfl,h,hh,hg,rfl⟩:=ha;exact minK h q n w hg hh
 pop:=fun v l w ha hn => by
  obtain ⟨q,n,rfl,h,hh,hg,rfl⟩:=ha;rw [size_srt] at hn;exact (popK h q n w hn hh).mono fun e w' ⟨q',n',he,ht,hb⟩ => ⟨_,by rw [← some_srt hg];exact he,⟨q',n',rfl,_,ht,good_pop hg,srt_pop hg.ok⟩,hb⟩
 size:=fun v l w ha => by
  obtain ⟨q,n,rfl,h,hh,hg,rfl⟩:=ha;rw [size_srt];exact sizeK h q n w hh
 kind:=fun v w => kindK v w
 of:=fun A xs cap w hr hn hf => (ofK A xs cap w hr hn).mono fun e w' ⟨q',n',he,ht,hb⟩ => ⟨_,he,⟨q',n',rfl,_,ht,good_of hf,srt_of xs⟩,hb⟩
end Go.Proofs.YtmeodbjlmjpnbaaGreat.Bi.Hp
