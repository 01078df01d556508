/- Contracts of package cons at trees' addresses: Push, First, Rest, Len, for any list in memory: what each returns, that the list it returns lies in memory, and that nothing that was there has changed. Condition: a length that is added to is below 2 to the 62nd. -/
import Derived.Test.YtmeodbjlmjpnbaaGreatPa
import Derived.Test.YtmeodbjlmjpnbaaGreatProg
import Derived.Lib.Hide
import Derived.WalkKit
import Derived.WalkLawsBesides
import Derived.Outline
import Derived.Deep.QuietTactic
import Derived.BigQuiet
import Derived.LoopTactic
import Derived.Shelf.Abstract
import Derived.Shelf.RegionOpen
import Derived.OwnWalkIn
import Derived.TacticsInMore
import Derived.LoopNIn
import Derived.LoopIn
import Derived.Deep.RegionHeld3
import Derived.Deep.DrawnRows
import Derived.StillTailTactics
import Derived.Defers
import Derived.Recover
import Derived.Deep.LoopGhost
import Derived.Deep.AppendLies
set_option maxRecDepth 100000
set_option maxHeartbeats 4000000
namespace Go.Proofs.YtmeodbjlmjpnbaaGreat.Lt
open Go.Sort Go.RowKit
abbrev El:Type:=Option Addr
abbrev one (x:El):Value := .pointer x
abbrev zero:El:=none
abbrev dA (p:Option Addr)(n:Int):Value := .agg #[.pointer p,.int .i64 n]
theorem wJ (p:Option Addr)(xs:List El)(x:El)(w w':World)(b:Nat)(h:Ch one 291 w p xs)(hb:Below w.heap.size w w')(h0:w'.heap[b]?=some (.cells #[one x,.pointer p] 291 (0,0))):Ch one 291 w' (some ⟨b,0,none⟩) (x::xs) :=
 ⟨b,p,rfl,(Array.getElem?_eq_some_iff.1 h0).1,h0,h.stay hb⟩
theorem lm (p:Option Addr)(xs:List El)(n:Int)(x:El)(w:World)(h:Ch one 291 w p xs)(h0:0≤n)(h1:n<4611686018427387904):Calls Tryz.prog 145 #[dA p n,one x] w fun e w' =>
  ∃b,e=.returned (dA (some ⟨b,0,none⟩) (n+1))∧Ch one 291 w' (some ⟨b,0,none⟩) (x::xs)∧Below w.heap.size w w':=by
 have H:=hdz h;clear h;go_enter Tryz.func145,Tryz.ntmps145
 go_wp2
 refine bodyPost_ret (v:=dA (some ⟨w.heap.size+1+1,0,none⟩) (n+1)) (by simp [results,Tryz.results145,go_sem]) rfl ⟨_,rfl,?_⟩;have hb:Below w.heap.size w (((w.alloc (.cells #[.pointer p,.int .i64 n] 106)).alloc (.cells #[.pointer (some ⟨w.heap.size+1+1,0,none⟩),.int .i64 (n+1)] 106)).alloc (.cells #[one x,.pointer p] 291)):=(((Below.refl _ w).alloc (Nat.le_refl _) _).alloc (by simp) _).alloc (by simp;omega) _;refine ⟨wJ p xs x w _ _ H.out hb ?_,hb⟩;have:=World.alloc_heap_new ((w.alloc (.cells #[.pointer p,.int .i64 n] 106)).alloc (.cells #[.pointer (some ⟨w.heap.size+1+1,0,none⟩),.int .i64 (n+1)] 106)) (.cells #[one x,.pointer p] 291);simpa using this
theorem kK (n:Int)(w:World):Calls Tryz.prog 141 #[dA none n] w fun e w' =>
  e=.returned (.tuple #[one zero,.bool false])∧Below w.heap.size w w':=by
 go_enter Tryz.func141,Tryz.ntmps141
 go_wp2
 go_ret2
 exact ⟨rfl,bG _⟩
theorem jH (p:Option Addr)(x:El)(xs:List El)(n:Int)(w:World)(h:Ch one 291 w p (x::xs)):Calls Tryz.prog 141 #[dA p n] w fun e w' =>
  e=.returned (.tuple #[one x,.bool true])∧Below w.heap.size w w':=by
 obtain ⟨b,q,rfl,hb,hh, -⟩:=h;have hv:w.cell? ⟨b,0,none⟩=some (one x):=by simp [World.cell?,hh]
 clear hh;have hv1:=((Below.refl w.heap.size w).alloc (Nat.le_refl _) (.cells #[.pointer (some ⟨b,0,none⟩),.int .i64 n] 106)).cell (p:=⟨b,0,none⟩) hb;rw [hv]at hv1;clear hv;go_enter Tryz.func141,Tryz.ntmps141
 go_wp2
 go_ret2
 exact ⟨rfl,bG _⟩
theorem tC (p:Option Addr)(n:Int)(w:World):Calls Tryz.prog 207 #[dA p n] w fun e w' =>
  e=.returned (.int .i64 n)∧Below w.heap.size w w':=by
 go_enter Tryz.func207,Tryz.ntmps207
 go_wp2
 go_ret
 exact ⟨rfl,bG _⟩
theorem qW (n:Int)(w:World):Calls Tryz.prog 144 #[dA none n] w fun e w' =>
  e=.returned (dA none n)∧Below w.heap.size w w':=by
 go_enter Tryz.func144,Tryz.ntmps144
 go_wp2
 refine bodyPost_ret (v:=dA none n) (by simp [results,Tryz.results144,go_sem]) rfl ⟨rfl,?_⟩;exact ((Below.refl _ w).alloc (Nat.le_refl _) _).alloc (by simp) _
theorem kN (p:Option Addr)(x:El)(xs:List El)(n:Int)(w:World)(h:Ch one 291 w p (x::xs))(h0:0<n)(h1:n<4611686018427387904):Calls Tryz.prog 144 #[dA p n] w fun e w' =>
  ∃q,e=.returned (dA q (n - 1))∧Ch one 291 w' q xs∧Below w.heap.size w w':=by
 obtain ⟨b,q,rfl,hb,hh,hr⟩:=h;have hv:w.cell? ⟨b,1,none⟩=some (.pointer q):=by simp [World.cell?,hh]
 clear hh;have HR:=hdz hr;clear hr;have hb':Below w.heap.size w ((w.alloc (.cells #[.pointer (some ⟨b,0,none⟩),.int .i64 n] 106)).alloc (.cells #[.pointer none,.int .i64 0] 106)):=((Below.refl w.heap.size w).alloc (Nat.le_refl _) _).alloc (by simp) _;have hv1:=hb'.cell (p:=⟨b,1,none⟩) hb;rw [hv]at hv1;clear hv;have HB:=hdz hb';clear hb';go_enter Tryz.func144,Tryz.ntmps144
 go_wp2
 go_region
 all_goals
  go_wp2
  refine bodyPost_ret (v:=dA q (n - 1)) (by simp [results,Tryz.results144,go_sem]) rfl ⟨_,rfl,?_⟩;have hb2:Below w.heap.size w ((w.alloc (.cells #[.pointer (some ⟨b,0,none⟩),.int .i64 n] 106)).alloc (.cells #[.pointer q,.int .i64 (n - 1)] 106)).drew:=(((Below.refl w.heap.size w).alloc (Nat.le_refl _) _).alloc (by simp) _).drew;exact ⟨Ch.stay HR.out hb2,hb2⟩
theorem bS (p:Option Addr)(xs:List El)(n:Nat)(w:World)(h:Ch one 291 w p xs)(hn:xs.length=n)(h1:n<2147483648):Calls Tryz.prog 144 #[dA p n] w fun e w' =>
  ∃q,e=.returned (dA q ((n - 1:Nat):Int))∧Ch one 291 w' q xs.tail∧Below w.heap.size w w':=by
 cases xs with
 | nil =>
  obtain rfl:=h.nil;obtain rfl:n=0:=hn.symm;exact (qW _ w).mono fun e w' ⟨he,hb⟩=>⟨none,he,rfl,hb⟩
 | cons x xs =>
  refine (kN p x xs n w h (by simp at hn;omega) (by omega)).mono fun e w' ⟨q,he,hc,hb⟩=>⟨q,?_,hc,hb⟩;rw [he,show ((n - 1:Nat):Int)=(n:Int) - 1 from by simp at hn;omega]
end Go.Proofs.YtmeodbjlmjpnbaaGreat.Lt
namespace Go.Proofs.YtmeodbjlmjpnbaaGreat.Lt
open Go.Sort Go.RowKit Go.Shelf
attribute [local go_sem] Oper.semAt_some
theorem jd (p:Option Addr)(xs:List El)(k:Int)(n:Nat)(hn:1≤n)(m:Nat)(w:World)(hm:m≤w.heap.size)(h:Chain one 291 m w p xs) :
  AQ Fence.wide n Tryz.prog 234 #[dA p k] one m xs w:=fun l J W hW hJ hY h0=>by
 have hL:Chain one 291 m (W.alloc (.cells #[.pointer p,.int .i64 k] 106)) p xs:=Chain.below ((hW.mono hm).alloc (Nat.le_trans hm hW.size) _) h;have hJ1:=hJ _ _ (.cells #[.pointer p,.int .i64 k] 106) h0;refine callsIn_of_wp Tryz.func234 rfl trivial ?_ rfl;simp only [Tryz.ntmps234,List.size_toArray,List.length_cons,List.length_nil,Nat.reduceAdd,Nat.reduceSub,Array.replicate_succ,Array.replicate_zero,List.push_toArray,List.append_toArray,List.nil_append,List.cons_append];have HL:=hdz hL;have HJ:=hdz hJ1;have HY:=hdz hY;clear hL hJ1 hY h0 h hJ;gi_wp2
 gi_loopw [4] (fun c wr => ∃(pre rest:List El) (q:Option Addr),c=.pointer q∧xs=pre++rest∧Chain one 291 m wr q rest∧J pre wr)
  (fun c wr=>left one 291 m wr c)
 case atStart =>
  exact ⟨[],xs,p,rfl,rfl,HL.out,HJ.out⟩
 case round =>
  obtain ⟨pre,rest,q,rfl,hx,hl,hJs⟩:=hrel
  cases rest with
  | nil =>
   obtain rfl:q=none:=hl;gi_wp2
   go_end0
   rw [hx,List.append_nil];exact ⟨⟨_,rfl⟩,hJs⟩
  | cons x rest =>
   have hl':=hl;obtain ⟨b,q',rfl,hb,hh,hr⟩:=hl;have hv:wr.cell? ⟨b,0,none⟩=some (one x):=by simp [World.cell?,hh]
   have hq:wr.cell? ⟨b,1,none⟩=some (.pointer q'):=by simp [World.cell?,hh]
   obtain ⟨fn,tmps,assign,body,hy,hR⟩:=HY.out pre x wr hJs (by rw [hx];simp);gi_wp2
   refine hR.mono ?_;rintro e W3 ⟨rfl,hJ3,hk3⟩;have hq3:W3.cell? ⟨b,1,none⟩=some (.pointer q'):=(hk3.cell (p:=⟨b,1,none⟩) hb).trans hq;gi_wp2
   go_roundw
   case rel=>exact ⟨pre++[x],rest,q',rfl,by simp [hx],Chain.below hk3 hr,hJ3⟩
   case measure=>rw [left_eq (Chain.below hk3 hr),left_eq hl'];simp
def tQ (w:World)(ys:List El)(k:Int)(pre:List El)(W:World):Prop :=
 ∃q,aB W (w.heap.size+1) 106 (.pointer q) (.int .i64 (k+pre.length))∧Ch one 291 W q (pre.reverse++ys)∧aB W (w.heap.size+1+1) 106 (.pointer none) (.int .i64 0)∧Below w.heap.size w W
theorem qJ (w:World)(ys:List El)(k:Int)(B:Nat)(hB:w.heap.size≤B):OwnFrom B (tQ w ys k):=by
 rintro s A C row ⟨q,h1,h2,h3,h4⟩ hg hr;refine ⟨q,h1.kept hg (fun r e=>(hr r e).2),h2.own hg (fun r e=>(hr r e).2),h3.kept hg (fun r e=>(hr r e).2),h4.grown hg h4.size (fun r e=>Nat.le_trans hB (hr r e).1)⟩
theorem nO (p q:Option Addr)(xs ys:List El)(j k:Int)(w:World)(hp:Ch one 291 w p xs)(hq:Ch one 291 w q ys)(h0:0≤k)(h1:k<2147483648)(h2:xs.length<2147483648) :
  Calls Tryz.prog 320 #[dA p j,dA q k] w fun e w' =>
   ∃r,e=.returned (dA r (k+xs.length))∧Ch one 291 w' r (xs.reverse++ys)∧Below w.heap.size w w':=by
 refine (callsIn_wide (n:=3)).1 ?_;refine callsIn_of_wp_marks Tryz.func320 rfl trivial ?_ rfl;simp only [Tryz.ntmps320,List.size_toArray,List.length_cons,List.length_nil,Nat.reduceAdd,Nat.reduceSub,Array.replicate_succ,Array.replicate_zero,List.push_toArray,List.append_toArray,List.nil_append,List.cons_append];have HP:=hdz hp;have HQ:=hdz hq;clear hp hq;gi_wp2
 have hB0:Below w.heap.size w (((w.alloc (.cells #[.pointer p,.int .i64 j] 106)).alloc (.cells #[.pointer q,.int .i64 k] 106)).alloc (.cells #[.pointer none,.int .i64 0] 106)):=(((Below.refl _ w).alloc (Nat.le_refl _) _).alloc (by simp) _).alloc (by simp;omega) _;have bM:=(aB.new (w.alloc (.cells #[.pointer p,.int .i64 j] 106)) 106 (.pointer q) (.int .i64 k)).alloc (.cells #[.pointer none,.int .i64 0] 106);have bR:=aB.new ((w.alloc (.cells #[.pointer p,.int .i64 j] 106)).alloc (.cells #[.pointer q,.int .i64 k] 106)) 106 (.pointer none) (.int .i64 0);simp only [World.size_alloc]at bM bR;have HT:=jd p xs j (3 - 1) (by omega) w.heap.size _ hB0.size (Chain.below hB0 HP.out);have hcq:=HQ.out.stay hB0
 refine oq rfl (by omega) (gf := 234) (fs:=#[dA p j]) rfl trivial (enters_of Tryz.func234 (by kernel_rfl) rfl) HT hB0.size (tQ w ys k) (qJ w ys k _ hB0.size)
  ⟨q,by simpa using bM,by simpa using hcq,bR,hB0⟩
  (fun x=>{ tmps:=#[dA p j,dA q k,.pointer (some ⟨w.heap.size,0,none⟩),.pointer (some ⟨w.heap.size+1,0,none⟩),.pointer (some ⟨w.heap.size+1+1,0,none⟩),one x,dA p j,.func (.func 234) #[dA p j] #[],one x,undef,undef,undef,undef],defers:=[] }) ?assign ?body ?done
 case assign =>
  intro l x W K hK;gi_wp2
  exact hK
 case body =>
  rintro l pre x W ⟨r,hm,hc,hr,hb⟩ hlt;have c0:=hm.c0;have c1:=hm.c1;have HM:=hdz hm;have HC:=hdz hc;have HR:=hdz hr;have HB:=hdz hb;clear hm hc hr hb hcq HT bM bR hB0 HP HQ;gi_wp2_with (refine ⟨trivial,?_⟩;gi_at_call 145;refine (CallsIn.inRound l (callsIn_wide.2 (lm r _ _ x _ HC.out (by omega) (by omega)))).mono ?_;rintro e w' ⟨b,rfl,hc2,hb2⟩;have d0:=(HM.out.stay hb2).c0;have d1:=(HM.out.stay hb2).c1;have e0:=(HM.out.stay hb2).z0;have e1:=(HM.out.stay hb2).z1)
  have hm2:=HM.out.stay hb2;refine ⟨(gH hb2).trans (qc _ _ _ _ _),aL (hb2.mono HB.out.size) (by omega) _ _,some ⟨b,0,none⟩,?_,?_,(HR.out.stay hb2).aside (by omega) _ _,aL (HB.out.trans (hb2.mono HB.out.size)) (by omega) _ _⟩
  ·rw [show k+((pre++[x]).length:Int)=k+pre.length+1 by simp;omega];exact hm2.set _ _
  ·rw [show (pre++[x]).reverse++ys=x::(pre.reverse++ys) by simp];exact hc2.set2 hm2 (by decide) _ _
 case done =>
  rintro D W hD ⟨r,hm,hc,hr,hb⟩ hK;have c0:=hm.c0;have c1:=hm.c1;have d0:=hr.c0;have d1:=hr.c1;have e0:=hr.z0;have e1:=hr.z1;gi_wp2
  have hK2:=(qc 0 (w.heap.size+1+1) W (.pointer r) (.int .i64 (k+xs.length))).same D _ (Nat.zero_le _) hK rfl;have hr2:=(hr.set (.pointer r) (.int .i64 (k+xs.length))).put (.deferred none) hK2 rfl;have f0:=hr2.c0;have f1:=hr2.c1;refine ⟨by simp,.inl ⟨_,_,rfl,run_takeDeferred hK2,?_⟩⟩;refine ⟨dA r (k+xs.length),by simp [results,Tryz.results320,go_sem,f0,f1],r,rfl,?_,?_⟩
  ·exact (hc.set2 hr (by decide) _ _).own (grownBy_putObj' _ D _) (fun r e=>by cases e;exact ⟨_,hK2,rfl⟩)
  ·exact (aL hb (by omega) _ _).trans (belowK_b (w:=w) (Nat.le_refl _) _ D _ _ (by simp at hD;omega) hK2 rfl rfl)
theorem qB (p:Option Addr)(xs:List El)(n:Int)(w:World)(h:Ch one 291 w p xs)(h2:xs.length<2147483648):Calls Tryz.prog 315 #[dA p n] w fun e w' =>
  ∃q,e=.returned (dA q xs.length)∧Ch one 291 w' q xs.reverse∧Below w.heap.size w w':=by
 have H:=hdz h;clear h;go_enter Tryz.func315,Tryz.ntmps315
 go_wp2_with fail
 ((with_reducible refine (nO p none xs [] n 0 _ ((H.out.alloc _).alloc _) (Ch.none _) (by omega) (by omega) h2).mono ?_);rintro e w1 ⟨q,rfl,hc,hb⟩);have hr:=(aB.new (w.alloc (.cells #[.pointer p,.int .i64 n] 106)) 106 (.pointer none) (.int .i64 0)).stay hb;rw [World.size_alloc]at hr;have hb1:Below w.heap.size w w1:=(((Below.refl w.heap.size w).alloc (Nat.le_refl _) _).alloc (by simp) _).trans (hb.mono (by simp;omega));rw [List.append_nil]at hc;rw [Int.zero_add];have HC:=hdz hc;have HB:=hdz hb1;have HR:=hdz hr;have d0:=hr.c0;have d1:=hr.c1;have e0:=hr.z0;have e1:=hr.z1;clear hc hb hb1 hr H;go_wp2
 have hr2:=HR.out.set (.pointer q) (.int .i64 xs.length);have f0:=hr2.c0;have f1:=hr2.c1;refine bodyPost_ret (v:=dA q xs.length) (by simp [results,Tryz.results315,go_sem,f0,f1]) rfl ⟨_,rfl,HC.out.set2 HR.out (by decide) _ _,aL HB.out (by omega) _ _⟩
theorem nL (p q:Option Addr)(xs ys:List El)(n:Int)(k:Int)(w:World)(hp:Ch one 291 w p xs)(hq:Ch one 291 w q ys)(h0:0≤k)(h1:k<2147483648)(h2:xs.length<2147483648) :
  Calls Tryz.prog 313 #[dA p n,dA q k] w fun e w' =>
   ∃r,e=.returned (dA r (k+xs.length))∧Ch one 291 w' r (xs++ys)∧Below w.heap.size w w':=by
 have HP:=hdz hp;have HQ:=hdz hq;clear hp hq;go_enter Tryz.func313,Tryz.ntmps313
 go_wp2_with fail
 have hB0:Below w.heap.size w (((w.alloc (.cells #[.pointer p,.int .i64 n] 106)).alloc (.cells #[.pointer q,.int .i64 k] 106)).alloc (.cells #[.pointer none,.int .i64 0] 106)):=(((Below.refl _ w).alloc (Nat.le_refl _) _).alloc (by simp) _).alloc (by simp;omega) _;have bL:=((aB.new w 106 (.pointer p) (.int .i64 n)).alloc (.cells #[.pointer q,.int .i64 k] 106)).alloc (.cells #[.pointer none,.int .i64 0] 106);have bM:=(aB.new (w.alloc (.cells #[.pointer p,.int .i64 n] 106)) 106 (.pointer q) (.int .i64 k)).alloc (.cells #[.pointer none,.int .i64 0] 106);have bR:=aB.new ((w.alloc (.cells #[.pointer p,.int .i64 n] 106)).alloc (.cells #[.pointer q,.int .i64 k] 106)) 106 (.pointer none) (.int .i64 0);simp only [World.size_alloc]at bM bR;generalize (((w.alloc (.cells #[.pointer p,.int .i64 n] 106)).alloc (.cells #[.pointer q,.int .i64 k] 106)).alloc (.cells #[.pointer none,.int .i64 0] 106))=W3 at *;have HP3:=hdz (HP.out.stay hB0).drew;have HQ3:=hdz (HQ.out.stay hB0).drew;have HB3:=hdz hB0.drew;have BL:=hdz (show aB W3.drew _ _ _ _ from bL);have BM:=hdz (show aB W3.drew _ _ _ _ from bM);have BR:=hdz (show aB W3.drew _ _ _ _ from bR);have g0:=bL.c0;have g1:=bL.c1;have g2:=bM.c0;have g3:=bM.c1;clear hB0 bL bM bR HP HQ;generalize hx0:w.heap.size=m0 at *;generalize hx2:m0+1+1=m2 at *;generalize hx1:m0+1=m1 at *;have n02:m0≠m2:=by omega
 have n12:m1≠m2:=by omega
 have HM:=hdz (show m0≤m2 by omega);have HX:=hdz hx0;clear hx0 hx1 hx2
 go_region_held3 (fun w'=>w'.cell? ⟨m0,0,none⟩=some (.pointer p)∧w'.cell? ⟨m0,1,none⟩=some (.int .i64 n)∧w'.cell? ⟨m1,0,none⟩=some (.pointer q)∧w'.cell? ⟨m1,1,none⟩=some (.int .i64 k)) (first|go_keep|exact ⟨gG n02 l0 _ _,gG n02 l1 _ _,gG n12 l2 _ _,gG n12 l3 _ _⟩)
  (first|(go_at_call 315;((with_reducible refine (qB p xs n _ HP3.out h2).mono ?_);rintro e w4 ⟨r,rfl,hc4,hb4⟩;have HC4:=hdz hc4;have HB4:=hdz hb4;have k0:=(BL.out.stay hb4).c0;have k1:=(BL.out.stay hb4).c1;have k2:=(BM.out.stay hb4).c0;have k3:=(BM.out.stay hb4).c1;clear hc4 hb4))|(go_at_call 320;((with_reducible refine (nO r q xs.reverse ys _ k _ HC4.out (HQ3.out.stay HB4.out) h0 h1 (by simpa using h2)).mono ?_);rintro e w5 ⟨r5,rfl,hc5,hb5⟩;have HC5:=hdz hc5;have HB5:=hdz hb5;have l0:=((BL.out.stay HB4.out).stay hb5).c0;have l1:=((BL.out.stay HB4.out).stay hb5).c1;have l2:=((BM.out.stay HB4.out).stay hb5).c0;have l3:=((BM.out.stay HB4.out).stay hb5).c1;have d0:=((BR.out.stay HB4.out).stay hb5).c0;have d1:=((BR.out.stay HB4.out).stay hb5).c1;have e0:=((BR.out.stay HB4.out).stay hb5).z0;have e1:=((BR.out.stay HB4.out).stay hb5).z1;clear hc5 hb5)))
 clear g0 g1 g2 g3 k0 k1 k2 k3 l0 l1 l2 l3 d0 d1 e0 e1;go_wp2
 have hr5:=(BR.out.stay HB4.out).stay HB5.out;have hr6:=hr5.set (.pointer r5) (.int .i64 (k+xs.length));have f0:=hr6.c0;have f1:=hr6.c1;have hc5:=HC5.out;rw [List.reverse_reverse]at hc5;refine bodyPost_ret (v:=dA r5 (k+xs.length)) (by simp [results,Tryz.results313,go_sem,f0,f1]) rfl ⟨r5,rfl,hc5.set2 hr5 (by decide) _ _,?_⟩;have hs:=HB3.out.size;have hs4:=HB4.out.size;rw [HX.out]at hs ⊢;exact aL ((HB3.out.trans (HB4.out.mono hs)).trans (HB5.out.mono (Nat.le_trans hs hs4))) HM.out _ _
end Go.Proofs.YtmeodbjlmjpnbaaGreat.Lt
namespace Go.Proofs.YtmeodbjlmjpnbaaGreat.Lt
open Go.Sort Go.RowKit
def om (w:World)(n:Int)(xs:List El)(m0 m1:Nat)(v:Value)(W:World):Prop :=
 ∃(i L:Nat) (q:Option Addr),v=.int .i64 (n - i)∧L=xs.length - i∧i≤xs.length∧(0<i→(i:Int)≤n)∧aB W m0 106 (.pointer q) (.int .i64 L)∧Ch one 291 W q (xs.drop i)∧aB W m1 106 (.pointer none) (.int .i64 0)∧Below w.heap.size w W
theorem rD (p:Option Addr)(xs:List El)(n:Int)(w:World)(h:Ch one 291 w p xs)(h2:xs.length<2147483648)(hn0 : -9223372036854775808≤n)(hn1:n<9223372036854775808) :
  Calls Tryz.prog 147 #[dA p xs.length,.int .i64 n] w fun e w' =>
   ∃q,e=.returned (dA q ((xs.length - n.toNat:Nat):Int))∧Ch one 291 w' q (xs.drop n.toNat)∧Below w.heap.size w w':=by
 have H:=hdz h;clear h;go_enter Tryz.func147,Tryz.ntmps147
 go_wp2_with fail
 have hB0:Below w.heap.size w ((w.alloc (.cells #[.pointer p,.int .i64 xs.length] 106)).alloc (.cells #[.pointer none,.int .i64 0] 106)):=((Below.refl _ w).alloc (Nat.le_refl _) _).alloc (by simp) _;have bL:=(aB.new w 106 (.pointer p) (.int .i64 xs.length)).alloc (.cells #[.pointer none,.int .i64 0] 106);have bR:=aB.new (w.alloc (.cells #[.pointer p,.int .i64 xs.length] 106)) 106 (.pointer none) (.int .i64 0);simp only [World.size_alloc]at bR;have H0:=hdz (show om w n xs w.heap.size (w.heap.size+1) (.int .i64 n) _ from ⟨0,xs.length,p,by simp,by simp,Nat.zero_le _,by omega,bL,H.out.stay hB0,bR,hB0⟩);clear hB0 bL bR H;go_loopw [1] (fun v wr=>om w n xs w.heap.size (w.heap.size+1) v wr) (fun v _=>(intOf v).toNat)
 case atStart=>exact H0.out
 case round =>
  clear H0;obtain ⟨i,L,q,rfl,hL,hi,hin,hbl,hc,hbr,hb⟩:=hrel;have HL:=hdz hbl;have HR:=hdz hbr;have HC:=hdz hc;have HB:=hdz hb;have HN:=hdz hL;have c0:=hbl.c0;have c1:=hbl.c1;clear hbl hbr hc hb hL;by_cases hpos:0<n - i
  ·have g1:decide (0<n - (i:Int))=true:=by simpa using hpos
   cases hd:xs.drop i with
   | nil =>
    have hc:=HC.out;rw [hd]at hc;obtain rfl:=hc.nil;have hlen:xs.length≤i:=by simpa using hd
    have d0:=HR.out.c0;have d1:=HR.out.c1;have e0:=HR.out.z0;have e1:=HR.out.z1;clear hc;go_wp2_with fail
    have hr2:=HR.out.set (.pointer none) (.int .i64 L);have f0:=hr2.c0;have f1:=hr2.c1;refine bodyPost_ret (v:=dA none L) (by simp [results,Tryz.results147,go_sem,f0,f1]) rfl ⟨none,?_,?_,aL HB.out (by omega) _ _⟩
    ·rw [show L=xs.length - n.toNat from by have:=HN.out;omega]
    ·rw [List.drop_eq_nil_of_le (by omega:xs.length≤n.toNat)];exact Ch.none _
   | cons x rest =>
    have hc:=HC.out;rw [hd]at hc;obtain ⟨b,q',rfl, -⟩:=id hc
    have hlen:i<xs.length:=by
     have:=congrArg List.length hd;simp at this;omega
    have hrest:rest=xs.drop (i+1):=by
     have:=congrArg List.tail hd;simpa using this.symm
    have HC2:=hdz hc;have HT:=hdz hrest;have HI:=hdz hin;have H1:=hdz hlen;clear hc hrest hin hlen hd;go_wp2_with fail
    ((with_reducible refine (kN _ x rest L _ HC2.out (by have:=HN.out;have:=H1.out;omega) (by have:=HN.out;omega)).mono ?_);rintro e w2 ⟨q2,rfl,hc2,hb2⟩);have hl2:=HL.out.stay hb2;have d0:=hl2.c0;have d1:=hl2.c1;have e0:=hl2.z0;have e1:=hl2.z1;have HL2:=hdz hl2;have HC3:=hdz hc2;have HB2:=hdz hb2;clear hl2 hc2 hb2;go_wp2_with fail
    go_roundw
    case rel =>
     refine ⟨i+1,L - 1,q2,by go_num,by have:=HN.out;omega,H1.out,fun _=>by omega,?_,?_,(HR.out.stay HB2.out).aside (by omega) _ _,aL (HB.out.trans (HB2.out.mono HB.out.size)) (Nat.le_refl _) _ _⟩
     ·rw [show ((L - 1:Nat):Int)=(L:Int) - 1 from by have:=HN.out;have:=H1.out;omega];exact HL2.out.set _ _
     ·rw [←HT.out];exact HC3.out.set2 HL2.out (by decide) _ _
    case measure=>simp [intOf];omega
  ·have g1:decide (0<n - (i:Int))=false:=by simpa using hpos
   have d0:=HR.out.c0;have d1:=HR.out.c1;have e0:=HR.out.z0;have e1:=HR.out.z1;go_wp2_with fail
   have hr2:=HR.out.set (.pointer q) (.int .i64 L);have f0:=hr2.c0;have f1:=hr2.c1;have hin2:i=n.toNat:=by omega
   refine bodyPost_ret (v:=dA q L) (by simp [results,Tryz.results147,go_sem,f0,f1]) rfl ⟨q,?_,?_,aL HB.out (by omega) _ _⟩
   ·rw [show L=xs.length - n.toNat from by have:=HN.out;omega]
   ·rw [←hin2];exact HC.out.set2 HR.out (by decide) _ _
end Go.Proofs.YtmeodbjlmjpnbaaGreat.Lt
namespace Go.Proofs.YtmeodbjlmjpnbaaGreat.Lt
open Go.Sort Go.RowKit
def Ac (w:World)(xs:List El)(m0 m1:Nat)(v:Value)(W:World):Prop :=
 ∃(k L:Nat) (q:Option Addr),v=.int .i64 ((k:Int) - 1)∧k≤xs.length∧L=xs.length - k∧aB W m1 106 (.pointer q) (.int .i64 L)∧Ch one 291 W q (xs.drop k)∧aB W m0 106 (.pointer none) (.int .i64 0)∧Below w.heap.size w W
theorem mq (w:World):Below w.heap.size w { w with drawn:=w.drawn+1 }:=(Below.refl _ _).drew
theorem kC (A:Option Addr)(xs:List El)(n c:Nat)(w:World)(hn:n=xs.length)(hr:Row1 one w A xs)(h2:xs.length<2147483648) :
  Calls Tryz.prog 312 #[.slice A n c] w fun e w' =>
   ∃q,e=.returned (dA q xs.length)∧Ch one 291 w' q xs∧Below w.heap.size w w':=by
 have HR:=hdz hr;have HN:=hdz hn;have hn2:n<2147483648:=by omega
 clear hr hn h2;go_enter Tryz.func312,Tryz.ntmps312
 go_wp2_with fail
 have hB0:Below w.heap.size w ((w.alloc (.cells #[.pointer none,.int .i64 0] 106)).alloc (.cells #[.pointer none,.int .i64 0] 106)):=((Below.refl _ w).alloc (Nat.le_refl _) _).alloc (by simp) _;have bL:=(aB.new w 106 (.pointer none) (.int .i64 0)).alloc (.cells #[.pointer none,.int .i64 0] 106);have bR:=aB.new (w.alloc (.cells #[.pointer none,.int .i64 0] 106)) 106 (.pointer none) (.int .i64 0);simp only [World.size_alloc]at bR;have H0:=hdz (show Ac w xs w.heap.size (w.heap.size+1) (.int .i64 ((n:Int) - 1)) _ from ⟨n,0,none,rfl,by rw [HN.out];exact Nat.le_refl _,by rw [HN.out];simp,bR,by rw [HN.out,List.drop_length];exact Ch.none _,bL,hB0⟩);clear hB0 bL bR;go_loopw [4] (fun v wr=>Ac w xs w.heap.size (w.heap.size+1) v wr) (fun v _=>(intOf v+1).toNat)
 case atStart=>exact H0.out
 case round =>
  clear H0;obtain ⟨k,L,q,rfl,hk,hL,hbl,hc,hbr,hb⟩:=hrel;have HK:=hdz hk;have HL:=hdz hbl;have HE:=hdz hbr;have HC:=hdz hc;have HB:=hdz hb;have HM:=hdz hL;have c0:=hbl.c0;have c1:=hbl.c1;have hkn:k≤n:=by rw [HN.out];exact hk
  clear hbl hbr hc hb hL hk
  cases k with
  | zero =>
   have d0:=HE.out.c0;have d1:=HE.out.c1;have e0:=HE.out.z0;have e1:=HE.out.z1;go_wp2_with fail
   have hr2:=HE.out.set (.pointer q) (.int .i64 L);have f0:=hr2.c0;have f1:=hr2.c1;refine bodyPost_ret (v:=dA q L) (by simp [results,Tryz.results312,go_sem,f0,f1]) rfl ⟨q,?_,?_,aL HB.out (Nat.le_refl _) _ _⟩
   ·rw [show L=xs.length from by have:=HM.out;omega]
   ·have hc:=HC.out;rw [List.drop_zero]at hc;exact hc.set2 HE.out (by decide) _ _
  | succ k =>
   obtain ⟨b,o,rfl,hcell⟩:=HR.out (by have:=HK.out;omega);have hx:=hcell k HK.out;rw [←HB.out.cell (p:=⟨b,o+k,none⟩) (lt_of_cell hx)]at hx;clear hcell;generalize hxe:xs[k]'HK.out=x at hx;have HX:=hdz (show xs.drop k=x::xs.drop (k+1) from by rw [List.drop_eq_getElem_cons HK.out,hxe]);clear hxe;rw [show (((k+1:Nat):Int) - 1)=(k:Int) from by omega];go_wp2_with fail
   have HP:=hdz (fun w h=>lm q (xs.drop (k+1)) L x w h (by omega) (by have:=HM.out;have:=HN.out;omega));go_region_with (go_at_call 145;((with_reducible refine (HP.out _ HC.out.drew).mono ?_);rintro e w2 ⟨b2,rfl,hc2,hb2⟩;have HC2:=hdz hc2;have HB2:=hdz hb2;have hl2:=HL.out.stay (W':=w2) (mq wr |>.trans hb2);have d0:=hl2.c0;have d1:=hl2.c1;have e0:=hl2.z0;have e1:=hl2.z1;have HL2:=hdz hl2;clear hc2 hb2 hl2))
   all_goals go_wp2_with fail
   all_goals
    have hb2:Below wr.heap.size wr w2:=(mq wr).trans HB2.out;refine ⟨⟨k,L+1,some ⟨b2,0,none⟩,rfl,by have:=HK.out;omega,by have:=HK.out;have:=HM.out;omega,HL2.out.set _ _,?_,(HE.out.stay hb2).aside (by omega) _ _,aL (HB.out.trans (hb2.mono HB.out.size)) (by omega) _ _⟩,by simp [intOf]⟩;rw [HX.out];exact HC2.out.set2 HL2.out (by decide) _ _
end Go.Proofs.YtmeodbjlmjpnbaaGreat.Lt
namespace Go.Proofs.YtmeodbjlmjpnbaaGreat.Lt
open Go.Sort Go.RowKit Go.Shelf
attribute [local go_sem] Oper.semAt_some
theorem tT:(Tryz.prog.info? 237).map (fun i=>(i.zero,i.size,i.bytes))=some (some (one zero),1,8):=by kernel_rfl
def xC (w:World)(B m:Nat)(pre:List El)(W:World):Prop :=
 (∃v,Boxed W B 361 v∧W.ownsRow m 237 1 v pre.length (pre.map one)∧True)∧Below w.heap.size w W
theorem qp (p:Option Addr)(xs:List El)(w:World)(hp:Ch one 291 w p xs)(h2:xs.length<2147483648) :
  Calls Tryz.prog 223 #[dA p xs.length] w fun e w' =>
   ∃v,e=.returned v∧Mine one 237 w' w.heap.size v xs∧Below w.heap.size w w':=by
 obtain ⟨i0,hi,hz0,hz1,hz2⟩:=info_parts tT;refine (callsIn_wide (n:=3)).1 ?_;refine callsIn_of_wp_marks Tryz.func223 rfl trivial ?_ rfl;simp only [Tryz.ntmps223,List.size_toArray,List.length_cons,List.length_nil,Nat.reduceAdd,Nat.reduceSub,Array.replicate_succ,Array.replicate_zero,List.push_toArray,List.append_toArray,List.nil_append,List.cons_append];have HP:=hdz hp;clear hp;gi_wp2_with (refine wpListIn_make_own _ rfl _ _ 361 rfl w.heap.size 237 i0 (one zero) 1 Tryz.underlying361 hi hz0 hz1 .i64 .i64 (xs.length:Int) xs.length rfl rfl rfl (by rw [hz2];omega) (by unfold maxLen;omega) (by simp) ?_;intro w1 hown hgrow;have hb1:Below (w.alloc (.cells #[.pointer p,.int .i64 xs.length] 106)).heap.size (w.alloc (.cells #[.pointer p,.int .i64 xs.length] 106)) w1:=⟨hgrow.os,hgrow.tape,hgrow.output,hgrow.size,fun k hk=>hgrow.block k hk (by simp)⟩;have bL:=((aB.new w 106 (.pointer p) (.int .i64 xs.length)).stay hb1).alloc (.cells #[.slice (some ⟨w.heap.size+1,0,none⟩) 0 xs.length] 361);have c0:=bL.c0;have c1:=bL.c1)
 have hs1:=hb1.size;simp only [World.size_alloc]at hs1 hown;have hB0:Below w.heap.size w (w1.alloc (.cells #[.slice (some ⟨w.heap.size+1,0,none⟩) 0 xs.length] 361)):=(((Below.refl w.heap.size w).alloc (Nat.le_refl _) _).trans (hb1.mono (by simp))).alloc (by omega) _;have bV:=Boxed.new w1 361 (.slice (some ⟨w.heap.size+1,0,none⟩) 0 xs.length);have HO:=hdz (hown.alloc (.cells #[.slice (some ⟨w.heap.size+1,0,none⟩) 0 xs.length] 361));have HT:=jd p xs xs.length (3 - 1) (by omega) w.heap.size _ hB0.size (Chain.below hB0 HP.out);have HS:=hdz (show w.heap.size+1≤w1.heap.size from hs1);clear hown hgrow hb1 bL c0 c1 hs1
 refine oq rfl (by omega) (gf := 234) (fs:=#[dA p xs.length]) rfl trivial (enters_of Tryz.func234 (by kernel_rfl) rfl) HT hB0.size (xC w w1.heap.size w.heap.size)
  (OwnFrom.and (Own.from (holdsRow_own w.heap.size w1.heap.size 361 237 1 (fun pre:List El=>pre.length) (fun pre=>pre.map one) (fun _ _=>True)) _) (ownFrom_below (Nat.le_refl _) hB0.size))
  ⟨⟨_,bV,HO.out,trivial⟩,hB0⟩
  (fun x=>{ tmps:=#[dA p xs.length,.pointer (some ⟨w.heap.size,0,none⟩),.slice none 0 0,.pointer (some ⟨w1.heap.size,0,none⟩),one x,.pointer (some ⟨w.heap.size,1,none⟩),.int .i64 xs.length,.slice (some ⟨w.heap.size+1,0,none⟩) 0 xs.length,dA p xs.length,.func (.func 234) #[dA p xs.length] #[],one x,undef,undef,undef,undef,undef],defers:=[] }) ?assign ?body ?done
 case assign =>
  intro l x W K hK;gi_wp2
  exact hK
 case body =>
  rintro l pre x W ⟨⟨v,hv,hrow, -⟩,hB⟩ hlt;have hc:=hv.cell;clear HT hB0 bV HO HP;gi_wp2_with (gi_at_builtin;refine wpListIn_append_own _ rfl _ _ 361 rfl w.heap.size 237 i0 (one zero) 1 8 Tryz.underlying361 hi hz0 hz1 hz2 rfl (by decide) _ _ _ rfl (hrow.alloc _) ⟨W.heap.size,0,none⟩ 1 1 [one x] rfl rfl (cell_one_new _ _ _) (by simp [Value.oneCell']) (by unfold maxLen;omega) (by omega) (by have:=hB.size;simp;omega) ?_;intro v' w2 hown' hgrow _;obtain ⟨g',cap',rfl⟩:=ownsRow_succ hown';obtain ⟨hv1,hv2,hr2,hk2,hb2⟩:=hv.appended (by decide) hrow hB.size (by have:=HS.out;omega) hown' hgrow;have hc1:=hv1.cell;have hf1:=hv1.frozen)
  exact ⟨hk2.from _,hb2,⟨_,hv2,by simpa using hr2,trivial⟩,hB.trans hb2⟩
 case done =>
  rintro D W hD ⟨⟨v,hv,hrow, -⟩,hB⟩ hK;have hc:=hv.cell;clear HT bV HO HP;gi_wp2
  refine ⟨by simp,.inl ⟨_,_,rfl,run_takeDeferred hK,?_⟩⟩;exact ⟨_,results_tmp rfl _ _ _,v,rfl,ownsRow_putObj hrow _ hK rfl,hB.trans (belowK_b (w:=w) (Nat.le_refl _) W D _ _ (Nat.le_trans hB0.size hD) hK rfl rfl)⟩
end Go.Proofs.YtmeodbjlmjpnbaaGreat.Lt
namespace Go.Proofs.YtmeodbjlmjpnbaaGreat.Lt
open Go.Sort Go.RowKit
def LL (W:World)(p:Option Addr)(n:Nat)(xs:List El):Prop:=Ch one 291 W p xs∧n=xs.length∧n<2147483648
theorem LL.stay {A B:World}{p:Option Addr}{n:Nat}{xs:List El}(h:LL A p n xs)(hb:Below A.heap.size A B):LL B p n xs:=⟨h.1.stay hb,h.2⟩
theorem LL.alloc {A:World}{p:Option Addr}{n:Nat}{xs:List El}(h:LL A p n xs)(o:Obj):LL (A.alloc o) p n xs:=⟨h.1.alloc o,h.2⟩
theorem LL.ch {A:World}{p:Option Addr}{n:Nat}{xs:List El}(h:LL A p n xs):Ch one 291 A p xs:=h.1
theorem LL.len {A:World}{p:Option Addr}{n:Nat}{xs:List El}(h:LL A p n xs):n=xs.length:=h.2.1
theorem LL.lt {A:World}{p:Option Addr}{n:Nat}{xs:List El}(h:LL A p n xs):n<2147483648:=h.2.2
theorem LL.none (A:World):LL A Option.none 0 []:=⟨Ch.none _,rfl,by decide⟩
def Gives (w:World)(xs:List El)(e:Ending)(w':World):Prop:=∃q,∃n:Nat,e=.returned (dA q n)∧LL w' q n xs∧Below w.heap.size w w'
theorem pY {w:World}{p:Option Addr}{n:Nat}{xs:List El}(x:El)(h:LL w p n xs)(hn:n+1<2147483648):Calls Tryz.prog 145 #[dA p n,one x] w (Gives w (x::xs)) :=
 (lm p xs n x w h.1 (by omega) (by omega)).mono fun e w' ⟨b,he,hc,hb⟩=>⟨_,n+1,by rw [he];simp,⟨hc,by rw [h.len];simp,hn⟩,hb⟩
theorem oC {w:World}{p:Option Addr}{n:Nat}{xs:List El}(h:LL w p n xs):Calls Tryz.prog 144 #[dA p n] w (Gives w xs.tail) :=
 (bS p xs n w h.1 h.len.symm h.lt).mono fun e w' ⟨q,he,hc,hb⟩=>⟨q,n - 1,he,⟨hc,by rw [h.len];simp,by have:=h.lt;omega⟩,hb⟩
theorem Cq {w:World}{p:Option Addr}{n:Nat}{xs:List El}(h:LL w p n xs):Calls Tryz.prog 315 #[dA p n] w (Gives w xs.reverse) :=
 (qB p xs n w h.1 (by rw [←h.len];exact h.lt)).mono fun e w' ⟨q,he,hc,hb⟩=>⟨q,n,by rw [he,h.len],⟨hc,by rw [h.len];simp,h.lt⟩,hb⟩
theorem zC {w:World}{p q:Option Addr}{n k:Nat}{xs ys:List El}(h:LL w p n xs)(h':LL w q k ys)(hk:n+k<2147483648):Calls Tryz.prog 313 #[dA p n,dA q k] w (Gives w (xs++ys)) :=
 (nL p q xs ys n k w h.1 h'.1 (by omega) (by have:=h'.lt;omega) (by rw [←h.len];exact h.lt)).mono fun e w' ⟨r,he,hc,hb⟩=>⟨r,n+k,by rw [he,←h.len];simp;omega,⟨hc,by rw [h.len,h'.len];simp,hk⟩,hb⟩
theorem uV {w:World}{p:Option Addr}{n:Nat}{xs:List El}(z:Int)(h:LL w p n xs)(h0 : -9223372036854775808≤z)(h1:z<9223372036854775808):Calls Tryz.prog 147 #[dA p n,.int .i64 z] w (Gives w (xs.drop z.toNat)):=by
 have:=rD p xs z w h.1 (by rw [←h.len];exact h.lt) h0 h1;rw [←h.len]at this;exact this.mono fun e w' ⟨q,he,hc,hb⟩=>⟨q,n - z.toNat,he,⟨hc,by rw [h.len];simp,by have:=h.lt;omega⟩,hb⟩
theorem Bg {w:World}{A:Option Addr}{n c:Nat}{xs:List El}(hn:n=xs.length)(hr:Row1 one w A xs)(h2:n<2147483648):Calls Tryz.prog 312 #[.slice A n c] w (Gives w xs) :=
 (kC A xs n c w hn hr (by omega)).mono fun e w' ⟨q,he,hc,hb⟩=>⟨q,n,by rw [he,hn],⟨hc,hn,h2⟩,hb⟩
theorem Cf {w:World}{p:Option Addr}{n:Nat}:Calls Tryz.prog 207 #[dA p n] w fun e w'=>e=.returned (.int .i64 n)∧Below w.heap.size w w':=tC p n w
theorem qK {w:World}{p:Option Addr}{n:Nat}{xs:List El}(h:LL w p n xs):Calls Tryz.prog 223 #[dA p n] w fun e w' =>
  ∃A c,e=.returned (.slice A n c)∧Mine one 237 w' w.heap.size (.slice A n c) xs∧Row1 one w' A xs∧n≤c∧Below w.heap.size w w':=by
 have:=qp p xs w h.1 (by rw [←h.len];exact h.lt);rw [←h.len]at this;refine this.mono fun e w' ⟨v,he,hm,hb⟩=>?_;obtain ⟨A,c,rfl,hr,hc, -, -⟩:=hm.form;rw [←h.len]at he hm hc;exact ⟨A,c,he,hm,hr,hc,hb⟩
end Go.Proofs.YtmeodbjlmjpnbaaGreat.Lt
namespace Go.Proofs.YtmeodbjlmjpnbaaGreat
open Go.Sort Go.RowKit
inductive ay
 | nil
 | cons (x:Int×Int) (bs:List (Int×Int)) (ks rest:ay)
structure ai where
 x:Int×Int
 bs:List (Int×Int)
 ks:ay
def ay.len:ay→Nat
 | .nil=>0
 | .cons _ _ _ r=>r.len+1
def ay.size:ay→Nat
 | .nil=>0
 | .cons _ bs ks r=>1+bs.length+ks.size+r.size
def ay.all:ay→List (Int×Int)
 | .nil=>[]
 | .cons x bs ks r=>(x::(bs++ks.all))++r.all
def ai.rank (t:ai):Nat:=t.ks.len
def ai.size (t:ai):Nat:=1+t.bs.length+t.ks.size
def ai.all (t:ai):List (Int×Int):=t.x::(t.bs++t.ks.all)
theorem ay.fE:∀w:ay,w.len≤w.size
 | .nil=>Nat.le_refl _
 | .cons _ _ _ r=>by have:=r.fE;simp only [ay.len,ay.size];omega
theorem ay.aD:∀w:ay,w.all.length=w.size
 | .nil=>rfl
 | .cons x bs ks r=>by simp only [ay.all,ay.size,List.length_append,List.length_cons,ks.aD,r.aD];omega
theorem ai.aD (t:ai):t.all.length=t.size:=by simp only [ai.all,ai.size,List.length_append,List.length_cons,t.ks.aD];omega
theorem ai.wz (t:ai):t.rank<t.size:=by have:=t.ks.fE;simp only [ai.rank,ai.size];omega
def nT (bs:List (Int×Int)):List UInt8:=bs.flatMap fun b=>32::43::textOf b.1 b.2
def ay.show:ay→List UInt8
 | .nil=>[]
 | .cons x bs ks r=>(32::40::(textOf x.1 x.2++(nT bs++(ks.show++[41]))))++r.show
def ai.show (t:ai):List UInt8:=40::(textOf t.x.1 t.x.2++(nT t.bs++(t.ks.show++[41])))
theorem og:∀(bs:List (Int×Int)),fits bs→(nT bs).length≤46*bs.length
 | [],_=>by simp [nT]
 | b::bs,h=>by
  have h1:=jV b.1 b.2 h.cons.1.1 h.cons.1.2;have ih:=og bs h.cons.2;simp only [nT,List.flatMap_cons,List.length_append,List.length_cons]at *;omega
theorem ay.gB:∀w:ay,fits w.all→w.show.length≤46*w.size
 | .nil,_=>by simp [ay.show]
 | .cons x bs ks r,h=>by
  have h0:=(h.append).1.cons;have h1:=jV x.1 x.2 h0.1.1 h0.1.2;have h2:=og bs h0.2.append.1;have h3:=ks.gB h0.2.append.2;have h4:=r.gB h.append.2;simp only [ay.show,ay.size,List.length_append,List.length_cons,List.length_nil]at *;omega
def fu (a b:ai):ai:=if dH b.x a.x then ⟨b.x,b.bs,.cons a.x a.bs a.ks b.ks⟩ else ⟨a.x,a.bs,.cons b.x b.bs b.ks a.ks⟩
def pE (y:Int×Int)(t:ai):ai:=if dH t.x y then ⟨t.x,y::t.bs,t.ks⟩ else ⟨y,t.x::t.bs,t.ks⟩
def bY (x:Int×Int):ai:=⟨x,[],.nil⟩
theorem y9 {a b:ai}(h:dH b.x a.x=true):fu a b=⟨b.x,b.bs,.cons a.x a.bs a.ks b.ks⟩:=by unfold fu;rw [if_pos h]
theorem zi {a b:ai}(h:dH b.x a.x=false):fu a b=⟨a.x,a.bs,.cons b.x b.bs b.ks a.ks⟩:=by unfold fu;rw [if_neg (by rw [h];simp)]
theorem zK {y:Int×Int}{t:ai}(h:dH t.x y=true):pE y t=⟨t.x,y::t.bs,t.ks⟩:=by unfold pE;rw [if_pos h]
theorem yR {y:Int×Int}{t:ai}(h:dH t.x y=false):pE y t=⟨y,t.x::t.bs,t.ks⟩:=by unfold pE;rw [if_neg (by rw [h];simp)]
def oI:Option ai→Option ai→Option ai
 | none,b=>b
 | some a,none=>some a
 | some a,some b=>some (fu a b)
def AZ (y:Int×Int)(a b:Option ai):Option ai:=match oI a b with
 | none=>some (bY y)
 | some t=>some (pE y t)
def bZ:Option ai→Option ai→Nat
 | some _,some _=>1
 | _,_=>0
def bF:Option ai→Nat
 | none=>0
 | some t=>t.size
def Dl:Option ai→List (Int×Int)
 | none=>[]
 | some t=>t.all
theorem jJ (a b:ai):(fu a b).size=a.size+b.size:=by unfold fu;split<;>simp [ai.size,ay.size]<;>omega
theorem wG (y:Int×Int)(t:ai):(pE y t).size=t.size+1:=by unfold pE;split<;>simp [ai.size]<;>omega
theorem jI (x:Int×Int):(bY x).size=1:=rfl
theorem pI (a b:Option ai):bF (oI a b)=bF a+bF b:=by
 cases a<;>cases b<;>simp [oI,bF,jJ]
def ay.right (x:Int×Int):ay→Int→Bool
 | .nil,r=>r == 0
 | .cons y bs ks rest,r=>(((ks.len:Int) == r - 1 && !dH y x) && (decide (bs.length≤ks.len) && bs.all (fun b => !dH b y) && ks.right y ks.len)) && rest.right x (r - 1)
def Fa (y:Int×Int)(bs:List (Int×Int))(r:Nat):Bool:=decide (bs.length≤r) && bs.all (fun b => !dH b y)
def ai.right (t:ai):Bool:=Fa t.x t.bs t.ks.len && t.ks.right t.x t.ks.len
end Go.Proofs.YtmeodbjlmjpnbaaGreat
namespace Go.Proofs.YtmeodbjlmjpnbaaGreat
open Go.Sort Go.RowKit
def dV (t:TypeId):Prop:=t=281∨t=316∨t=314
theorem gL:¬dV 89 := by unfold dV;decide
abbrev Kp (W W':World):Prop:=bO dV W W'
theorem Kp.below {W W':World}(h:Below W.heap.size W W'):Kp W W':=bO.below h
def tu (W:World):List (Int×Int)→Option Addr→Prop
 | [],p=>p=none
 | x::xs,p => ∃(b:Nat) (q:Option Addr),p=some ⟨b,0,none⟩∧W.heap[b]?=some (.cells #[.int .i64 x.1,.int .i64 x.2,.pointer q] 316 (0,0))∧tu W xs q
def dK (x:Int×Int)(bp:Option Addr)(r:Int)(kp:Option Addr)(o:Int):Obj :=
 .cells #[.int .i64 x.1,.int .i64 x.2,.pointer bp,.int .i64 r,.pointer kp,.int .i64 o] 281 (0,0)
def uf (W:World):ay→Option Addr→Prop
 | .nil,p=>p=none
 | .cons x bs ks rest,p => ∃(c b:Nat) (q bp kp:Option Addr),p=some ⟨c,0,none⟩∧W.heap[c]?=some (.cells #[.pointer (some ⟨b,0,none⟩),.pointer q] 314 (0,0)) ∧
   W.heap[b]?=some (dK x bp ks.len kp (bs.length+ks.size:Nat))∧tu W bs bp∧uf W ks kp∧uf W rest q
def oz (W:World)(b:Nat)(t:ai):Prop:=∃(bp kp:Option Addr),W.heap[b]?=some (dK t.x bp t.ks.len kp (t.bs.length+t.ks.size:Nat))∧tu W t.bs bp∧uf W t.ks kp
def gQ (W:World)(p:Option Addr):Option ai→Prop
 | none=>p=none
 | some t => ∃b,p=some ⟨b,0,none⟩∧oz W b t
section
variable {W W':World}
theorem tu.kp (h:Kp W W'):∀{xs:List (Int×Int)} {p:Option Addr},tu W xs p→tu W' xs p
 | [],_,hp=>hp
 | _::_,_,⟨b,q,e,hb,hr⟩=>⟨b,q,e,h _ _ _ (.inr (.inl rfl)) hb,tu.kp h hr⟩
theorem uf.kp (h:Kp W W'):∀{ks:ay} {p:Option Addr},uf W ks p→uf W' ks p
 | .nil,_,hp=>hp
 | .cons _ _ _ _,_,⟨c,b,q,bp,kp,e,hc,hb,h1,h2,h3⟩=>⟨c,b,q,bp,kp,e,h _ _ _ (.inr (.inr rfl)) hc,h _ _ _ (.inl rfl) hb,h1.kp h,uf.kp h h2,uf.kp h h3⟩
theorem oz.kp (h:Kp W W'){b:Nat}{t:ai}(hn:oz W b t):oz W' b t:=by
 obtain ⟨bp,kp,hb,h1,h2⟩:=hn;exact ⟨bp,kp,h _ _ _ (.inl rfl) hb,h1.kp h,h2.kp h⟩
theorem gQ.kp (h:Kp W W'){p:Option Addr}{t:Option ai}(ht:gQ W p t):gQ W' p t:=by
 cases t with
 | none=>exact ht
 | some t=>obtain ⟨b,e,hn⟩:=ht;exact ⟨b,e,hn.kp h⟩
theorem oz.stay {b:Nat}{t:ai}(hn:oz W b t)(h:Below W.heap.size W W'):oz W' b t:=hn.kp (Kp.below h)
theorem gQ.stay {p:Option Addr}{t:Option ai}(hn:gQ W p t)(h:Below W.heap.size W W'):gQ W' p t:=hn.kp (Kp.below h)
theorem tu.stay {p:Option Addr}{t:List (Int×Int)}(hn:tu W t p)(h:Below W.heap.size W W'):tu W' t p:=hn.kp (Kp.below h)
theorem uf.stay {p:Option Addr}{t:ay}(hn:uf W t p)(h:Below W.heap.size W W'):uf W' t p:=hn.kp (Kp.below h)
theorem oz.lt {b:Nat}{t:ai}(hn:oz W b t):b<W.heap.size:=by obtain ⟨bp,kp,hb, -⟩:=hn;exact lt_of_heap hb
structure Am (W:World)(b:Nat)(x:Int×Int)(bp:Option Addr)(r:Int)(kp:Option Addr)(o:Int):Prop where
 c0:W.cell? ⟨b,0,none⟩=some (.int .i64 x.1)
 c1:W.cell? ⟨b,1,none⟩=some (.int .i64 x.2)
 c2:W.cell? ⟨b,2,none⟩=some (.pointer bp)
 c3:W.cell? ⟨b,3,none⟩=some (.int .i64 r)
 c4:W.cell? ⟨b,4,none⟩=some (.pointer kp)
 c5:W.cell? ⟨b,5,none⟩=some (.int .i64 o)
theorem six {b:Nat}{x:Int×Int}{bp kp:Option Addr}{r o:Int}(h:W.heap[b]?=some (dK x bp r kp o)):Am W b x bp r kp o:=by
 constructor<;>simp [World.cell?,h,dK]
theorem Am.below {B:Nat}{b:Nat}{x:Int×Int}{bp kp:Option Addr}{r o:Int}(h:Am W b x bp r kp o)(hb:Below B W W')(hB:b<B):Am W' b x bp r kp o :=
 ⟨(hb.cell (p:=⟨b,0,none⟩) hB).trans h.c0,(hb.cell (p:=⟨b,1,none⟩) hB).trans h.c1,(hb.cell (p:=⟨b,2,none⟩) hB).trans h.c2,(hb.cell (p:=⟨b,3,none⟩) hB).trans h.c3,(hb.cell (p:=⟨b,4,none⟩) hB).trans h.c4,(hb.cell (p:=⟨b,5,none⟩) hB).trans h.c5⟩
end
end Go.Proofs.YtmeodbjlmjpnbaaGreat
namespace Go.Proofs.YtmeodbjlmjpnbaaGreat
open Go.Sort Go.RowKit
theorem vY (x:Int×Int)(w:World):Calls Tryz.prog 204 #[el x] w fun e w'=>e=.returned (el x)∧Below w.heap.size w w':=by
 obtain ⟨p,q⟩:=x;go_enter Tryz.func204,Tryz.ntmps204
 go_wp2
 refine bodyPost_ret (v := .agg #[.int .i64 p,.int .i64 q]) (by simp [results,Tryz.results204,go_sem]) rfl ⟨rfl,((Below.refl w.heap.size w).alloc (Nat.le_refl _) _).alloc (by simp) _⟩
theorem idle (w:World):CallsD Tryz.prog 174 #[] .returning w fun e u' w'=>e=.returned (.tuple #[])∧u'=.returning∧w'=w:=by
 refine callsD_of_wpS Tryz.func174 rfl fun c₀ cs hu=>?_;apply wpS_region
 cases c₀
 simp_all [wpOpsS,go_sem,recoverD,bodyPostS,results,Tryz.ntmps174,Tryz.results174]
theorem fV (x:Int×Int)(w:World):Calls Tryz.prog 155 #[el x] w fun e w'=>e=.returned (el x)∧Below w.heap.size w w':=by
 obtain ⟨p,q⟩:=x;have hm:∀(n:Nat) (w:World),(method (n+1) 29 (.agg #[.int .i64 p,.int .i64 q]) "Key").run Tryz.prog w=.ok (204,.agg #[.int .i64 p,.int .i64 q]) w:=fun _ _=>by kernel_rfl
 go_enter_defers Tryz.func155,Tryz.ntmps155
 go_wp2_with fail
 ((with_reducible refine (vY (p,q) _).mono ?_);rintro e w1 ⟨rfl,hb1⟩);obtain ⟨-,hp,hb⟩:=duo hb1;have hs:=hp.set p q;obtain ⟨e0,e1,f0,f1, -⟩:=hp;clear hb1;go_wp2_with fail
 refine leaves_cons (f := 174) (args:=#[]) (by simp) (by simp [go_sem]) ?_;refine (idle _).mono ?_;rintro e u' w'' ⟨rfl,rfl,rfl⟩;obtain ⟨k0,k1, -⟩:=hs;have hv:Below w.heap.size w ((w1.setCell ⟨w.heap.size+1,0,none⟩ (.int .i64 p)).setCell ⟨w.heap.size+1,1,none⟩ (.int .i64 q)):=(hb.setCell (by simp) _).setCell (by simp) _;simp [Leaves,settle,results,Tryz.results155,go_sem,k0,k1,hv]
end Go.Proofs.YtmeodbjlmjpnbaaGreat
namespace Go.Proofs.YtmeodbjlmjpnbaaGreat
open Go.Sort Go.RowKit
def bU (mo:Option Nat)(c m:Int)(t:Option ai)(w:World)(e:Ending)(w':World):Prop:=∃p,e=.returned (.pointer p)∧gQ w' p t∧aW w' mo c m∧Bt mo w w'
theorem oP (p q:Option Addr)(w:World):Calls Tryz.prog 156 #[.pointer p,.pointer q] w fun e w' =>
  e=.returned (.pointer (some ⟨w.heap.size,0,none⟩))∧w'=w.alloc (.cells #[.pointer p,.pointer q] 314):=by
 go_enter Tryz.func156,Tryz.ntmps156
 go_wp2
 go_ret
 exact ⟨rfl,rfl⟩
theorem oV (x:Int×Int)(q:Option Addr)(w:World):Calls Tryz.prog 158 #[el x,.pointer q] w fun e w' =>
  ∃b,e=.returned (.pointer (some ⟨b,0,none⟩))∧w'.heap[b]?=some (.cells #[.int .i64 x.1,.int .i64 x.2,.pointer q] 316 (0,0))∧Below w.heap.size w w':=by
 obtain ⟨x1,x2⟩:=x;go_enter Tryz.func158,Tryz.ntmps158
 go_wp2
 go_ret
 exact ⟨_,rfl,aJ (by simp),(bG _).alloc (by simp) _⟩
theorem j5 (mo:Option Nat)(c m:Int)(x:Int×Int)(w:World)(h:aW w mo c m)(h0:0≤m)(h1:m<4611686018427387904):Calls Tryz.prog 117 #[aF mo,el x] w
  (bU mo c (m+1) (some (bY x)) w):=by
 obtain ⟨x1,x2⟩:=x;have H:=hdz h;clear h;go_enter Tryz.func117,Tryz.ntmps117
 go_wp2_with fail
 ((with_reducible refine (mZ mo c m _ (H.out.alloc _) h0 h1).mono ?_);rintro e w1 ⟨rfl,hm,hb⟩);obtain ⟨e0,e1, -⟩:=bn.new w x1 x2 29;have hne:∀b,mo=some b→w.heap.size≠b:=fun b eb=>by subst eb;have:=H.out.lt;omega
 have k0:=hb.cell (a:=⟨w.heap.size,0,none⟩) e0 hne;have k1:=hb.cell (a:=⟨w.heap.size,1,none⟩) e1 hne;have HM:=hdz hm;have HB:=hdz (((Bt.refl mo w).alloc _).trans hb);clear e0 e1 hne hm hb H;go_wp2
 go_ret
 exact ⟨_,rfl,⟨w1.heap.size,rfl,none,none,heap_alloc_new w1 _,rfl,rfl⟩,HM.out.alloc _,HB.out.alloc _⟩
end Go.Proofs.YtmeodbjlmjpnbaaGreat
namespace Go.Proofs.YtmeodbjlmjpnbaaGreat
open Go.Sort Go.RowKit
theorem CX (w:World):Calls Tryz.prog 157 #[.pointer none] w fun e w'=>e=.returned (.int .i64 0)∧w'=w:=by
 go_enter Tryz.func157,Tryz.ntmps157
 go_wp2
 go_ret
 exact ⟨rfl,rfl⟩
theorem size_at {b:Nat}{x:Int×Int}{bp kp:Option Addr}{r o:Int}(w:World)(h:Am w b x bp r kp o)(h0:0≤o)(h1:o<1073741824) :
  Calls Tryz.prog 157 #[.pointer (some ⟨b,0,none⟩)] w fun e w'=>e=.returned (.int .i64 (o+1))∧w'=w:=by
 have c5:=h.c5;clear h;go_enter Tryz.func157,Tryz.ntmps157
 go_wp2
 go_ret
 exact ⟨rfl,rfl⟩
theorem eF (p:Option Addr)(t:Option ai)(w:World)(h:gQ w p t)(h1:bF t<1073741824):Calls Tryz.prog 157 #[.pointer p] w fun e w'=>e=.returned (.int .i64 (bF t:Nat))∧w'=w:=by
 cases t with
 | none=>obtain rfl:=h;exact CX w
 | some t =>
  obtain ⟨b,rfl,bp,kp,hb, -⟩:=h;simp only [bF,ai.size]at h1 ⊢;refine (size_at w (six hb) (by omega) (by omega)).mono fun e w' ⟨he,hw⟩=>⟨by rw [he];congr 2;omega,hw⟩
def EO:Option ai→Int
 | none => -1
 | some t=>t.ks.len
theorem jG (p:Option Addr)(t:Option ai)(w:World)(h:gQ w p t):Calls Tryz.prog 142 #[.pointer p] w fun e w'=>e=.returned (.int .i64 (EO t))∧w'=w:=by
 cases t with
 | none =>
  obtain rfl:=h;go_enter Tryz.func142,Tryz.ntmps142
  go_wp2
  go_ret
  exact ⟨rfl,rfl⟩
 | some t =>
  obtain ⟨b,rfl,bp,kp,hb, -⟩:=h;have c3:=(six hb).c3;clear hb;go_enter Tryz.func142,Tryz.ntmps142
  go_wp2
  go_ret
  exact ⟨rfl,rfl⟩
def lG:Option ai→Value
 | none=>.tuple #[el (0,0),.bool false]
 | some t=>.tuple #[el t.x,.bool true]
theorem kU (p:Option Addr)(t:Option ai)(w:World)(h:gQ w p t):Calls Tryz.prog 311 #[.pointer p] w fun e w'=>e=.returned (lG t)∧Below w.heap.size w w':=by
 cases t with
 | none =>
  obtain rfl:=h;go_enter Tryz.func311,Tryz.ntmps311
  go_wp2
  refine bodyPost_ret (v:=lG none) (by simp [results,Tryz.results311,go_sem,lG]) rfl ⟨rfl,?_⟩;exact ((Below.refl w.heap.size w).alloc (Nat.le_refl _) _).alloc (by simp) _
 | some t =>
  obtain ⟨b,rfl,bp,kp,hb, -⟩:=h;obtain ⟨⟨x1,x2⟩,bs,ks⟩:=t;have h6:=(six hb).below ((Below.refl w.heap.size w).alloc (Nat.le_refl _) (.cells #[.int .i64 0,.int .i64 0] 29)) (lt_of_heap hb);have c0:=h6.c0;have c1:=h6.c1;clear hb h6;go_enter Tryz.func311,Tryz.ntmps311
  go_wp2
  refine bodyPost_ret (v:=lG (some ⟨(x1,x2),bs,ks⟩)) (by simp [results,Tryz.results311,go_sem,lG]) rfl ⟨rfl,?_⟩;exact (Below.refl w.heap.size w).alloc (Nat.le_refl _) _
end Go.Proofs.YtmeodbjlmjpnbaaGreat
namespace Go.Proofs.YtmeodbjlmjpnbaaGreat
open Go.Sort Go.RowKit
theorem oZ (mo:Option Nat)(q:Option Addr)(w:World):Calls Tryz.prog 143 #[aF mo,.pointer none,.pointer q] w fun e w'=>e=.returned (.pointer q)∧w'=w:=by
 go_enter Tryz.func143,Tryz.ntmps143
 go_wp2_with fail
 go_ret
 exact ⟨rfl,rfl⟩
theorem sV (mo:Option Nat)(b:Nat)(w:World):Calls Tryz.prog 143 #[aF mo,.pointer (some ⟨b,0,none⟩),.pointer none] w fun e w'=>e=.returned (.pointer (some ⟨b,0,none⟩))∧w'=w:=by
 go_enter Tryz.func143,Tryz.ntmps143
 go_wp2_with fail
 go_ret
 exact ⟨rfl,rfl⟩
theorem aC {W W':World}{b:Nat}{x:Int×Int}{bp kp:Option Addr}{r o:Int}(h:W.heap[b]?=some (dK x bp r kp o))(hk:Kp W W'):Am W' b x bp r kp o:=six (hk b _ _ (.inl rfl) h)
structure nY (mo:Option Nat)(w:World)(c m:Int)(w':World):Prop where
 bt:Bt mo w w'
 mt:aW w' mo c m
 kp:Kp w w'
section
variable {mo:Option Nat}{w w' w'':World}{c m c' m':Int}
theorem nY.refl (h:aW w mo c m):nY mo w c m w:=⟨Bt.refl _ _,h,bO.refl _⟩
theorem nY.stay (h:nY mo w c m w')(hb:Below w'.heap.size w' w''):nY mo w c m w'':=⟨h.bt.trans (Bt.aV hb),h.mt.stay hb,h.kp.trans (Kp.below hb)⟩
theorem nY.alloc (h:nY mo w c m w')(o:Obj):nY mo w c m (w'.alloc o):=h.stay (bG o)
theorem nY.drew (h:nY mo w c m w'):nY mo w c m w'.drew:=h.stay ((Below.refl _ _).drew)
theorem nY.turn (h:nY mo w c m w')(hm:aW w'' mo c' m')(hb:Bt mo w' w''):nY mo w c' m' w'':=⟨h.bt.trans hb,hm,h.kp.trans (hb.oG h.mt gL)⟩
end
theorem u7 (mo:Option Nat)(c m:Int)(a b:Nat)(x1 x2 y1 y2:Int)(aas bbs:List (Int×Int))(aks bks:ay)(w:World)(hv:dH (y1,y2) (x1,x2)=true)(hm:aW w mo c m)(h0:0≤c)(h1:c<2305843009213693952)(h2:0≤m)(h3:m<2305843009213693952)
  (ha:oz w a ⟨(x1,x2),aas,aks⟩) (hb:oz w b ⟨(y1,y2),bbs,bks⟩) (ka:1+aas.length+aks.size<536870912) (kb:1+bbs.length+bks.size<536870912) :
  Calls Tryz.prog 143 #[aF mo,.pointer (some ⟨a,0,none⟩),.pointer (some ⟨b,0,none⟩)] w (bU mo (c+1) (m+1) (some ⟨(y1,y2),bbs,.cons (x1,x2) aas aks bks⟩) w):=by
 obtain ⟨ap,akp,hah,hab,haw⟩:=ha;obtain ⟨bp,bkp,Iz,hbb,hbw⟩:=hb;have h6:=aC hah (bO.refl w);have g6:=aC Iz (bO.refl w);have a0:=h6.c0;have a1:=h6.c1;have b0:=g6.c0;have b1:=g6.c1;have HM:=hdz hm;have HA:=hdz hah;have HB:=hdz Iz;have HL:=hdz (af hab (af haw (af hbb hbw)));have HV:=hdz hv;have HK:=hdz (af ka kb);have HR:=hdz (af aks.fE bks.fE);clear hm hah Iz hab haw hbb hbw h6 g6 hv ka kb;go_enter Tryz.func143,Tryz.ntmps143
 go_wp2_with fail
 go_region_held3 (fun w'=>w'.cell? ⟨a,0,none⟩=some (.int .i64 x1)∧w'.cell? ⟨a,1,none⟩=some (.int .i64 x2)∧w'.cell? ⟨b,0,none⟩=some (.int .i64 y1)∧w'.cell? ⟨b,1,none⟩=some (.int .i64 y2)) (go_keep)
  (first|(go_at_call 140;((with_reducible refine (lM mo c m (y1,y2) (x1,x2) _ K2.out.mt h0 (by omega)).mono ?_);rintro e w3 ⟨rfl,hm3,hb3⟩;rw [HV.out];have K3:=hdz (K2.out.turn hm3 hb3);have f0:=(aC HA.out K3.out.kp).c0;have f1:=(aC HA.out K3.out.kp).c1;have f2:=(aC HB.out K3.out.kp).c0;have f3:=(aC HB.out K3.out.kp).c1;clear hm3 hb3))|(go_at_call 155;((with_reducible refine (fV (y1,y2) _).mono ?_);rintro e w1 ⟨rfl,hb1⟩;have K1:=hdz ((nY.refl HM.out).drew.stay hb1);have d0:=(aC HA.out K1.out.kp).c0;have d1:=(aC HA.out K1.out.kp).c1;have d2:=(aC HB.out K1.out.kp).c0;have d3:=(aC HB.out K1.out.kp).c1;clear hb1))|(go_at_call 155;((with_reducible refine (fV (x1,x2) _).mono ?_);rintro e w2 ⟨rfl,hb2⟩;have K2:=hdz (K1.out.stay hb2);have e0:=(aC HA.out K2.out.kp).c0;have e1:=(aC HA.out K2.out.kp).c1;have e2:=(aC HB.out K2.out.kp).c0;have e3:=(aC HB.out K2.out.kp).c1;clear hb2)))
 clear a0 a1 b0 b1 d0 d1 d2 d3 e0 e1 e2 e3 f0 f1 f2 f3 K1 K2 HM;go_wp2_with fail
 ((with_reducible refine (mZ mo (c+1) m _ K3.out.mt h2 (by omega)).mono ?_);rintro e w4 ⟨rfl,hm4,hb4⟩);have K4:=hdz (K3.out.turn hm4 hb4);clear hm4 hb4 K3;have s6:=aC HB.out K4.out.kp;have c0:=s6.c0;have c1:=s6.c1;have c2:=s6.c2;have c3:=s6.c3;have c4:=s6.c4;have c5:=s6.c5;clear s6;go_wp2_with fail
 go_region_held3 (fun w'=>w'.cell? ⟨b,0,none⟩=some (.int .i64 y1)∧w'.cell? ⟨b,1,none⟩=some (.int .i64 y2)∧w'.cell? ⟨b,2,none⟩=some (.pointer bp)∧w'.cell? ⟨b,3,none⟩=some (.int .i64 (bks.len:Int))∧w'.cell? ⟨b,4,none⟩=some (.pointer bkp)∧w'.cell? ⟨b,5,none⟩=some (.int .i64 (bbs.length+bks.size:Nat))) (go_keep)
  (first|(go_at_call 156;((with_reducible refine (oP (some ⟨a,0,none⟩) bkp _).mono ?_);rintro e w5 ⟨rfl,hw5⟩;have P5:=hdz (show w5.heap[w4.drew.heap.size]?=some (.cells #[.pointer (some ⟨a,0,none⟩),.pointer bkp] 314 (0,0)) by rw [hw5];exact aJ rfl);have K5:=hdz (show nY mo w (c+1) (m+1) w5 by rw [hw5];exact K4.out.drew.alloc _);have s6:=aC HB.out K5.out.kp;have d0:=s6.c0;have d1:=s6.c1;have d2:=s6.c2;have d3:=s6.c3;have d4:=s6.c4;have d5:=s6.c5;clear hw5 s6))|(go_at_call 157;((with_reducible refine (size_at _ (aC HA.out K5.out.kp) (by omega) (by have:=HK.out;omega)).mono ?_);rintro e w6 ⟨rfl,rfl⟩)))
 clear c0 c1 c2 c3 c4 c5 d0 d1 d2 d3 d4 d5;go_wp2_with fail
 go_ret
 obtain ⟨ka,kb⟩:=HK.out;obtain ⟨ra,rb⟩:=HR.out;have e1:IntKind.i64.wrap ((bks.len:Int)+1)=((ay.cons (x1,x2) aas aks bks).len:Int):=by rw [IntKind.wrap_i64];simp only [ay.len];omega
 have e2:IntKind.i64.wrap ((bbs.length:Int)+bks.size+((aas.length:Int)+aks.size+1))=((bbs.length+(ay.cons (x1,x2) aas aks bks).size:Nat):Int):=by rw [IntKind.wrap_i64];simp only [ay.size];omega
 rw [e1,e2];obtain ⟨hab,haw,hbb,hbw⟩:=HL.out;have hk:=(K5.out.alloc (dK (y1,y2) bp ((ay.cons (x1,x2) aas aks bks).len:Int) (some ⟨w4.heap.size,0,none⟩) ((bbs.length+(ay.cons (x1,x2) aas aks bks).size:Nat):Int)));refine ⟨_,rfl,⟨w6.heap.size,rfl,bp,some ⟨w4.heap.size,0,none⟩,aJ rfl,(hbb).kp hk.kp,⟨w4.heap.size,a,bkp,ap,akp,rfl,?_,hk.kp _ _ _ (.inl rfl) HA.out,(hab).kp hk.kp,(haw).kp hk.kp,(hbw).kp hk.kp⟩⟩,hk.mt,hk.bt⟩;exact (Kp.below (bG _)) _ _ _ (.inr (.inr rfl)) P5.out
theorem su (mo:Option Nat)(c m:Int)(a b:Nat)(x1 x2 y1 y2:Int)(aas bbs:List (Int×Int))(aks bks:ay)(w:World)(hv:dH (y1,y2) (x1,x2)=false)(hm:aW w mo c m)(h0:0≤c)(h1:c<2305843009213693952)(h2:0≤m)(h3:m<2305843009213693952)
  (ha:oz w a ⟨(x1,x2),aas,aks⟩) (hb:oz w b ⟨(y1,y2),bbs,bks⟩) (ka:1+aas.length+aks.size<536870912) (kb:1+bbs.length+bks.size<536870912) :
  Calls Tryz.prog 143 #[aF mo,.pointer (some ⟨a,0,none⟩),.pointer (some ⟨b,0,none⟩)] w (bU mo (c+1) (m+1) (some ⟨(x1,x2),aas,.cons (y1,y2) bbs bks aks⟩) w):=by
 obtain ⟨ap,akp,hah,hab,haw⟩:=ha;obtain ⟨bp,bkp,Iz,hbb,hbw⟩:=hb;have h6:=aC hah (bO.refl w);have g6:=aC Iz (bO.refl w);have a0:=h6.c0;have a1:=h6.c1;have b0:=g6.c0;have b1:=g6.c1;have HM:=hdz hm;have HA:=hdz hah;have HB:=hdz Iz;have HL:=hdz (af hab (af haw (af hbb hbw)));have HV:=hdz hv;have HK:=hdz (af ka kb);have HR:=hdz (af aks.fE bks.fE);clear hm hah Iz hab haw hbb hbw h6 g6 hv ka kb;go_enter Tryz.func143,Tryz.ntmps143
 go_wp2_with fail
 go_region_held3 (fun w'=>w'.cell? ⟨a,0,none⟩=some (.int .i64 x1)∧w'.cell? ⟨a,1,none⟩=some (.int .i64 x2)∧w'.cell? ⟨b,0,none⟩=some (.int .i64 y1)∧w'.cell? ⟨b,1,none⟩=some (.int .i64 y2)) (go_keep)
  (first|(go_at_call 140;((with_reducible refine (lM mo c m (y1,y2) (x1,x2) _ K2.out.mt h0 (by omega)).mono ?_);rintro e w3 ⟨rfl,hm3,hb3⟩;rw [HV.out];have K3:=hdz (K2.out.turn hm3 hb3);have f0:=(aC HA.out K3.out.kp).c0;have f1:=(aC HA.out K3.out.kp).c1;have f2:=(aC HB.out K3.out.kp).c0;have f3:=(aC HB.out K3.out.kp).c1;clear hm3 hb3))|(go_at_call 155;((with_reducible refine (fV (y1,y2) _).mono ?_);rintro e w1 ⟨rfl,hb1⟩;have K1:=hdz ((nY.refl HM.out).drew.stay hb1);have d0:=(aC HA.out K1.out.kp).c0;have d1:=(aC HA.out K1.out.kp).c1;have d2:=(aC HB.out K1.out.kp).c0;have d3:=(aC HB.out K1.out.kp).c1;clear hb1))|(go_at_call 155;((with_reducible refine (fV (x1,x2) _).mono ?_);rintro e w2 ⟨rfl,hb2⟩;have K2:=hdz (K1.out.stay hb2);have e0:=(aC HA.out K2.out.kp).c0;have e1:=(aC HA.out K2.out.kp).c1;have e2:=(aC HB.out K2.out.kp).c0;have e3:=(aC HB.out K2.out.kp).c1;clear hb2)))
 clear a0 a1 b0 b1 d0 d1 d2 d3 e0 e1 e2 e3 f0 f1 f2 f3 K1 K2 HM;go_wp2_with fail
 ((with_reducible refine (mZ mo (c+1) m _ K3.out.mt h2 (by omega)).mono ?_);rintro e w4 ⟨rfl,hm4,hb4⟩);have K4:=hdz (K3.out.turn hm4 hb4);clear hm4 hb4 K3;have s6:=aC HA.out K4.out.kp;have c0:=s6.c0;have c1:=s6.c1;have c2:=s6.c2;have c3:=s6.c3;have c4:=s6.c4;have c5:=s6.c5;clear s6;go_wp2_with fail
 go_region_held3 (fun w'=>w'.cell? ⟨a,0,none⟩=some (.int .i64 x1)∧w'.cell? ⟨a,1,none⟩=some (.int .i64 x2)∧w'.cell? ⟨a,2,none⟩=some (.pointer ap)∧w'.cell? ⟨a,3,none⟩=some (.int .i64 (aks.len:Int))∧w'.cell? ⟨a,4,none⟩=some (.pointer akp)∧w'.cell? ⟨a,5,none⟩=some (.int .i64 (aas.length+aks.size:Nat))) (go_keep)
  (first|(go_at_call 156;((with_reducible refine (oP (some ⟨b,0,none⟩) akp _).mono ?_);rintro e w5 ⟨rfl,hw5⟩;have P5:=hdz (show w5.heap[w4.drew.heap.size]?=some (.cells #[.pointer (some ⟨b,0,none⟩),.pointer akp] 314 (0,0)) by rw [hw5];exact aJ rfl);have K5:=hdz (show nY mo w (c+1) (m+1) w5 by rw [hw5];exact K4.out.drew.alloc _);have s6:=aC HA.out K5.out.kp;have d0:=s6.c0;have d1:=s6.c1;have d2:=s6.c2;have d3:=s6.c3;have d4:=s6.c4;have d5:=s6.c5;clear hw5 s6))|(go_at_call 157;((with_reducible refine (size_at _ (aC HB.out K5.out.kp) (by omega) (by have:=HK.out;omega)).mono ?_);rintro e w6 ⟨rfl,rfl⟩)))
 clear c0 c1 c2 c3 c4 c5 d0 d1 d2 d3 d4 d5;go_wp2_with fail
 go_ret
 obtain ⟨ka,kb⟩:=HK.out;obtain ⟨ra,rb⟩:=HR.out;have e1:IntKind.i64.wrap ((aks.len:Int)+1)=((ay.cons (y1,y2) bbs bks aks).len:Int):=by rw [IntKind.wrap_i64];simp only [ay.len];omega
 have e2:IntKind.i64.wrap ((aas.length:Int)+aks.size+((bbs.length:Int)+bks.size+1))=((aas.length+(ay.cons (y1,y2) bbs bks aks).size:Nat):Int):=by rw [IntKind.wrap_i64];simp only [ay.size];omega
 rw [e1,e2];obtain ⟨hab,haw,hbb,hbw⟩:=HL.out;have hk:=(K5.out.alloc (dK (x1,x2) ap ((ay.cons (y1,y2) bbs bks aks).len:Int) (some ⟨w4.heap.size,0,none⟩) ((aas.length+(ay.cons (y1,y2) bbs bks aks).size:Nat):Int)));refine ⟨_,rfl,⟨w6.heap.size,rfl,ap,some ⟨w4.heap.size,0,none⟩,aJ rfl,(hab).kp hk.kp,⟨w4.heap.size,b,akp,bp,bkp,rfl,?_,hk.kp _ _ _ (.inl rfl) HB.out,(hbb).kp hk.kp,(hbw).kp hk.kp,(haw).kp hk.kp⟩⟩,hk.mt,hk.bt⟩;exact (Kp.below (bG _)) _ _ _ (.inr (.inr rfl)) P5.out
theorem xA (mo:Option Nat)(c m:Int)(a b:Nat)(ta tb:ai)(w:World)(hm:aW w mo c m)(h0:0≤c)(h1:c<2305843009213693952)(h2:0≤m)(h3:m<2305843009213693952)
  (ha:oz w a ta) (hb:oz w b tb) (ka:ta.size<536870912) (kb:tb.size<536870912) :
  Calls Tryz.prog 143 #[aF mo,.pointer (some ⟨a,0,none⟩),.pointer (some ⟨b,0,none⟩)] w (bU mo (c+1) (m+1) (some (fu ta tb)) w):=by
 obtain ⟨⟨x1,x2⟩,aas,aks⟩:=ta;obtain ⟨⟨y1,y2⟩,bbs,bks⟩:=tb
 cases hv:dH (y1,y2) (x1,x2) with
 | true =>
  rw [show fu ⟨(x1,x2),aas,aks⟩ ⟨(y1,y2),bbs,bks⟩=⟨(y1,y2),bbs,.cons (x1,x2) aas aks bks⟩ from by unfold fu;simp only [hv,if_true]];exact u7 mo c m a b x1 x2 y1 y2 aas bbs aks bks w hv hm h0 h1 h2 h3 ha hb ka kb
 | false =>
  rw [show fu ⟨(x1,x2),aas,aks⟩ ⟨(y1,y2),bbs,bks⟩=⟨(x1,x2),aas,.cons (y1,y2) bbs bks aks⟩ from by unfold fu;simp [hv]];exact su mo c m a b x1 x2 y1 y2 aas bbs aks bks w hv hm h0 h1 h2 h3 ha hb ka kb
theorem jy (mo:Option Nat)(c m:Int)(p q:Option Addr)(ta tb:Option ai)(w:World)(hm:aW w mo c m)(h0:0≤c)(h1:c<2305843009213693952)(h2:0≤m)(h3:m<2305843009213693952)
  (ha:gQ w p ta) (hb:gQ w q tb) (ka:bF ta<536870912) (kb:bF tb<536870912) :
  Calls Tryz.prog 143 #[aF mo,.pointer p,.pointer q] w (bU mo (c+bZ ta tb) (m+bZ ta tb) (oI ta tb) w):=by
 cases ta with
 | none =>
  obtain rfl:=ha;refine (oZ mo q w).mono fun e w' ⟨he,hw⟩=>⟨q,he,?_,?_,?_⟩
  ·rw [hw];exact hb
  ·rw [hw];simpa [bZ] using hm
  ·rw [hw];exact Bt.refl _ _
 | some ta =>
  obtain ⟨a,rfl,ha⟩:=ha
  cases tb with
  | none =>
   obtain rfl:=hb;refine (sV mo a w).mono fun e w' ⟨he,hw⟩=>⟨_,he,?_,?_,?_⟩
   ·rw [hw];exact ⟨a,rfl,ha⟩
   ·rw [hw];simpa [bZ] using hm
   ·rw [hw];exact Bt.refl _ _
  | some tb =>
   obtain ⟨b,rfl,hb⟩:=hb;exact xA mo c m a b ta tb w hm h0 h1 h2 h3 ha hb ka kb
end Go.Proofs.YtmeodbjlmjpnbaaGreat
namespace Go.Proofs.YtmeodbjlmjpnbaaGreat
open Go.Sort Go.RowKit
theorem Bc (w:World)(base:Nat)(v:Value)(xs:List (Int×Int))(x:Int×Int)(hown:Own w base v xs)(hlen:xs.length<1073741824)(hb:base≤w.heap.size) :
  ∃v' w',(Builtin.append_ #[22, 22] 22 #[v,.slice (some ⟨w.heap.size,0,none⟩) 1 1]).run Tryz.prog (w.alloc (.cells #[.int .i64 x.1,.int .i64 x.2] 29))=.ok v' w'∧Own w' base v' (xs++[x])∧Below base w w':=by
 obtain ⟨v',w',h1,h2,h3⟩:=wK (w.alloc (.cells #[.int .i64 x.1,.int .i64 x.2] 29)) base v xs [x] (some ⟨w.heap.size,0,none⟩) 1 (hown.below (bG _)) (yV w [x] _) (fun e=>by cases e) (by simp;omega) (by simp;omega);exact ⟨v',w',h1,h2,below_grown ((Below.refl _ _).alloc hb _) h3 (by simp;omega) (fun g hg=>hown.block g hg)⟩
def Put (base:Nat)(xs:List (Int×Int))(w:World)(e:Ending)(w':World):Prop:=∃v,e=.returned v∧Own w' base v xs∧Below base w w'
theorem ou (w0:World)(bs:List (Int×Int))(p:Option Addr)(hp:tu w0 bs p)(base:Nat)(hb0:w0.heap.size≤base)(v:Value)(ys:List (Int×Int))(w:World)(hW:Below w0.heap.size w0 w)(hbw:base≤w.heap.size)(hv:Own w base v ys)(hl:ys.length+bs.length<1073741824) :
  Calls Tryz.prog 322 #[.pointer p,v] w (Put base (ys++bs) w):=by
 go_enter Tryz.func322,Tryz.ntmps322
 go_wp2_with fail
 have H:=hdz (af hp (af hv (af hW hl)));clear hp hv hW hl;go_loopg [0,1] bs.length (fun k c u wr => ∃(pre rest:List (Int×Int)) (q:Option Addr),c=.pointer q∧bs=pre++rest∧k=rest.length∧tu w0 rest q∧Own wr base u (ys++pre)∧Below base w wr)
 case atStart=>exact ⟨[],bs,p,rfl,rfl,rfl,H.out.1,by rw [List.append_nil];exact H.out.2.1,Below.refl _ _⟩
 case round =>
  obtain ⟨pre,rest,q,rfl,hx,hk,hr,hown,hbe⟩:=hrel;have hbw2:base≤wr.heap.size:=Nat.le_trans hbw hbe.size
  cases rest with
  | nil =>
   obtain rfl:=hr;have A:=hdz (af hx (af hown hbe));clear hx hown hbe hk;go_wp2_with fail
   go_ret
   obtain ⟨hx,hown,hbe⟩:=A.out;rw [List.append_nil]at hx;exact ⟨_,rfl,by rw [hx];exact hown,hbe⟩
  | cons x rest =>
   obtain ⟨b,q',rfl,hh,hr'⟩:=hr;have hb0':Below w0.heap.size w0 wr:=H.out.2.2.1.trans (hbe.mono hb0);have hlt:=lt_of_heap hh;have hh1:=(hb0'.block b hlt).trans hh;have c0:wr.cell? ⟨b,0,none⟩=some (.int .i64 x.1):=by simp [World.cell?,hh1]
   have c1:wr.cell? ⟨b,1,none⟩=some (.int .i64 x.2):=by simp [World.cell?,hh1]
   have hlen:(ys++pre).length<1073741824:=by
    have h1:=congrArg List.length hx;have h2:=H.out.2.2.2;simp only [List.length_append,List.length_cons]at h1 ⊢;omega
   obtain ⟨u',w2,hrun,hown2,hb2⟩:=Bc wr base _ (ys++pre) x hown hlen hbw2;have hb2':Below w0.heap.size w0 w2:=hb0'.trans (hb2.mono hb0);have hh2:=(hb2'.block b hlt).trans hh;have c2:w2.cell? ⟨b,2,none⟩=some (.pointer q'):=by simp [World.cell?,hh2]
   have A:=hdz (af hx (af hown2 (af (hbe.trans hb2) (af hr' hk))));clear hx hown hbe hown2 hb2 hb2' hr' hh hh1 hh2 hb0' hk hlen;go_wp2_with (at_builtin;refine wpList_append_run rfl _ _ _ rfl _ _ _ _ rfl rfl hrun ?_)
   obtain ⟨hx,hown2,hbe,hr',hk⟩:=A.out;go_roundg rest.length
   case measure=>rw [hk];simp
   case rel=>exact ⟨pre++[x],rest,q',rfl,by rw [hx];simp,rfl,hr',by rw [←List.append_assoc];exact hown2,hbe⟩
end Go.Proofs.YtmeodbjlmjpnbaaGreat
namespace Go.Proofs.YtmeodbjlmjpnbaaGreat
open Go.Sort Go.RowKit
def yZ:Option ai→List (Int×Int)
 | none=>[]
 | some t=>t.bs
theorem sI (p:Option Addr)(t:Option ai)(w:World)(h:gQ w p t)(h1:bF t<1073741824):Calls Tryz.prog 316 #[.pointer p] w (Put w.heap.size (yZ t) w):=by
 cases t with
 | none =>
  obtain rfl:=h;go_enter Tryz.func316,Tryz.ntmps316
  go_wp2_with fail
  go_ret
  exact ⟨_,rfl,Own.none _ _,Below.refl _ _⟩
 | some t =>
  obtain ⟨b,rfl,bp,kp,hb,hB, -⟩:=h;have c2:=(six hb).c2;have H:=hdz (ou w t.bs bp hB w.heap.size (Nat.le_refl _) (.slice none 0 0) [] w (Below.refl _ _) (Nat.le_refl _) (Own.none _ _) (by simp only [bF,ai.size]at h1;simp only [List.length_nil];omega));clear hb hB h1;go_enter Tryz.func316,Tryz.ntmps316
  go_wp2_with fail
  ((with_reducible refine H.out.mono ?_);rintro e w1 ⟨v,rfl,hown,hb⟩);have A:=hdz (af hown hb);clear hown hb H;go_wp2_with fail
  go_ret
  exact ⟨_,rfl,A.out.1,A.out.2⟩
end Go.Proofs.YtmeodbjlmjpnbaaGreat
namespace Go.Proofs.YtmeodbjlmjpnbaaGreat
open Go.Sort Go.RowKit
def BN (p:Option Addr):Value := .pointer p
def iG (W:World):ay→List (Option Addr)→Prop
 | .nil,ps=>ps=[]
 | .cons x bs ks r,ps => ∃b ps',ps=some ⟨b,0,none⟩::ps'∧oz W b ⟨x,bs,ks⟩∧iG W r ps'
theorem iG.length {W:World}:∀{ks:ay} {ps:List (Option Addr)},iG W ks ps→ps.length=ks.len
 | .nil,_,h=>by rw [h];rfl
 | .cons _ _ _ _,_,⟨_,_,e,_,h⟩=>by rw [e,List.length_cons,h.length];rfl
abbrev xM (w:World)(base:Nat)(v:Value)(ps:List (Option Addr)):Prop:=Mine BN 237 w base v ps
theorem yQ:(Tryz.prog.info? 237).map (fun i=>(i.zero,i.size,i.bytes))=some (some (.pointer none),1,8):=by kernel_rfl
theorem sM (w:World)(base:Nat)(v:Value)(ps:List (Option Addr))(p:Option Addr)(hown:xM w base v ps)(hlen:ps.length<1073741824)(hb:base≤w.heap.size) :
  ∃v' w',(Builtin.append_ #[361, 361] 361 #[v,.slice (some ⟨w.heap.size,0,none⟩) 1 1]).run Tryz.prog (w.alloc (.cells #[.pointer p] 237))=.ok v' w'∧xM w' base v' (ps++[p]) ∧
   (w.alloc (.cells #[.pointer p] 237)).grownBy w' v.ownBlock∧Below base w w':=by
 obtain ⟨i0,hi,hz0,hz1,hz2⟩:=info_parts yQ;have hown':(w.alloc (.cells #[.pointer p] 237)).ownsRow base 237 1 v ps.length (ps.map BN):=World.ownsRow.alloc hown _
 obtain ⟨g,c,w',h1,h2,h3, -, -⟩:=run_append_lies (P:=Tryz.prog) (w:=w.alloc (.cells #[.pointer p] 237)) 361 361 base 237 i0 _ 1 8 Tryz.underlying361 hi hz0 hz1 hz2 rfl (by omega)
  _ ps.length (ps.map BN) hown' ⟨w.heap.size,0,none⟩ 1 1 [.pointer p] rfl
  (fun j u hu=>by
   rw [jY];have e1:(w.alloc (.cells #[.pointer p] 237)).heap[w.heap.size]?=some (.cells #[.pointer p] 237 (0,0)):=aJ rfl;unfold World.cell?;rw [e1];simpa using hu) (by intro u hu;simp at hu;subst hu;rfl) (by omega) (by unfold maxLen;omega) (by omega) (by simp;omega) _ rfl
 refine ⟨_,w',h1,?_,h3,below_grown ((Below.refl _ _).alloc hb _) h3 (by simp;omega) (fun g hg=>hown.block g hg)⟩;unfold xM Mine;rw [List.length_append,List.map_append];exact h2
def En (w0:World)(ks:ay)(base:Nat)(w:World)(e:Ending)(w':World):Prop:=∃v ps,e=.returned v∧iG w0 ks ps∧xM w' base v ps∧Below base w w'
theorem iG.put {W:World}:∀{pre:List (Option Addr)} {ks rest:ay} {x:Int×Int} {bs:List (Int×Int)} {b:Nat} {aks:ay},(∀qs,iG W (.cons x bs ks rest) qs→iG W aks (pre++qs))→oz W b ⟨x,bs,ks⟩ → ∀qs,iG W rest qs→iG W aks ((pre++[some ⟨b,0,none⟩])++qs) :=
 fun h hn qs hq=>by rw [List.append_assoc];exact h _ ⟨_,qs,rfl,hn,hq⟩
theorem pV (w:World)(ks:ay)(p:Option Addr)(hp:uf w ks p)(hl:ks.size<1073741824) :
  Calls Tryz.prog 321 #[.pointer p,.slice none 0 0] w (En w ks w.heap.size w):=by
 have hlen:=ks.fE;go_enter Tryz.func321,Tryz.ntmps321
 go_wp2_with fail
 have H:=hdz (af hp (af hl hlen));clear hp hl hlen;go_loopg [0,1] ks.len (fun k c u wr => ∃(pre:List (Option Addr)) (rest:ay) (q:Option Addr),c=.pointer q∧pre.length+rest.len=ks.len∧k=rest.len∧uf w rest q∧(∀qs,iG w rest qs→iG w ks (pre++qs))∧xM wr w.heap.size u pre∧Below w.heap.size w wr)
 case atStart=>exact ⟨[],ks,p,rfl,by simp,rfl,H.out.1,fun qs h=>h,Mine.none _ _ _,Below.refl _ _⟩
 case round =>
  obtain ⟨pre,rest,q,rfl,hx,hk,hr,hq,hown,hbe⟩:=hrel
  cases rest with
  | nil =>
   obtain rfl:=hr;have A:=hdz (af hq (af hown hbe));clear hx hown hbe hk hq;go_wp2_with fail
   go_ret
   obtain ⟨hq,hown,hbe⟩:=A.out;exact ⟨_,pre,rfl,by simpa using hq [] rfl,hown,hbe⟩
  | cons y cs cks rest =>
   obtain ⟨c,bk,q',bp',kp',rfl,hc,hbk,h1,h2,h3⟩:=hr;have hc1:=(hbe.block c (lt_of_heap hc)).trans hc;have c0:wr.cell? ⟨c,0,none⟩=some (.pointer (some ⟨bk,0,none⟩)):=by simp [World.cell?,hc1]
   obtain ⟨u',w2,hrun,hown2, -,hb2⟩:=sM wr w.heap.size _ pre (some ⟨bk,0,none⟩) hown (by have:=H.out.2;simp only [ay.len]at hx;omega) hbe.size;have hc2:=((hbe.trans hb2).block c (lt_of_heap hc)).trans hc;have c1:w2.cell? ⟨c,1,none⟩=some (.pointer q'):=by simp [World.cell?,hc2]
   have A:=hdz (af hx (af hown2 (af (hbe.trans hb2) (af h3 (af hk (iG.put hq ⟨bp',kp',hbk,h1,h2⟩))))));clear hx hown hbe hown2 hb2 hc hc1 hc2 hbk h1 h2 h3 hk hq;go_wp2_with (at_builtin;refine wpList_append_run rfl _ _ _ rfl _ _ _ _ rfl rfl hrun ?_)
   obtain ⟨hx,hown2,hbe,h3,hk,hq⟩:=A.out;go_roundg rest.len
   case measure=>rw [hk];simp [ay.len]
   case rel=>exact ⟨pre++[some ⟨bk,0,none⟩],rest,q',rfl,by simp only [ay.len]at hx;simp;omega,rfl,h3,hq,hown2,hbe⟩
def Eg:Option ai→ay
 | none=>.nil
 | some t=>t.ks
theorem uI (p:Option Addr)(t:Option ai)(w:World)(h:gQ w p t)(h1:bF t<1073741824):Calls Tryz.prog 314 #[.pointer p] w (En w (Eg t) w.heap.size w):=by
 cases t with
 | none =>
  obtain rfl:=h;go_enter Tryz.func314,Tryz.ntmps314
  go_wp2_with fail
  go_ret
  exact ⟨_,[],rfl,rfl,Mine.none _ _ _,Below.refl _ _⟩
 | some t =>
  obtain ⟨b,rfl,bp,kp,hb, -,hK⟩:=h;have c4:=(six hb).c4;have H:=hdz (pV w t.ks kp hK (by simp only [bF,ai.size]at h1;omega));clear hb hK h1;go_enter Tryz.func314,Tryz.ntmps314
  go_wp2_with fail
  ((with_reducible refine H.out.mono ?_);rintro e w1 ⟨v,ps,rfl,hk,hown,hb⟩);have A:=hdz (af hk (af hown hb));clear hk hown hb H;go_wp2_with fail
  go_ret
  exact ⟨_,ps,rfl,A.out.1,A.out.2.1,A.out.2.2⟩
end Go.Proofs.YtmeodbjlmjpnbaaGreat
namespace Go.Proofs.YtmeodbjlmjpnbaaGreat
open Go.Sort Go.RowKit
end Go.Proofs.YtmeodbjlmjpnbaaGreat
namespace Go.Proofs.YtmeodbjlmjpnbaaGreat
open Go.Sort Go.RowKit
def ay.list:ay→List ai
 | .nil=>[]
 | .cons x bs ks r=>⟨x,bs,ks⟩::r.list
def aR:List ai→List (Int×Int)
 | []=>[]
 | t::r=>t.all++aR r
def ah:List ai→Nat
 | []=>0
 | t::r=>t.size+ah r
def dx:List ai→ai→List ai
 | [],t=>[t]
 | u::r,t=>if t.rank<u.rank then t::u::r else dx r (fu t u)
def bg:List ai→ai→Nat
 | [],_=>0
 | u::r,t=>if t.rank<u.rank then 0 else 1+bg r (fu t u)
def aP (a b:List ai):List ai:=match a,b with
 | [],b=>b
 | f::a,[]=>f::a
 | f::a,g::b=>if f.rank<g.rank then f::aP a (g::b) else if g.rank<f.rank then g::aP (f::a) b else dx (aP a b) (fu f g)
termination_by a.length+b.length
decreasing_by all_goals (simp only [List.length_cons];omega)
def aI (a b:List ai):Nat:=match a,b with
 | [],_=>0
 | _::_,[]=>0
 | f::a,g::b=>if f.rank<g.rank then aI a (g::b) else if g.rank<f.rank then aI (f::a) b else 1+aI a b+bg (aP a b) (fu f g)
termination_by a.length+b.length
decreasing_by all_goals (simp only [List.length_cons];omega)
def za (h:List ai)(x:Int×Int):List ai:=dx h (bY x)
def G9 (l:List (Int×Int)):List ai:=l.foldl za []
def bq (l:List ai)(i:Nat):Int×Int:=match l[i]? with
 | some t=>t.x
 | none=>(0,0)
def cK (l:List ai):Nat→Nat
 | 0=>0
 | k+1=>if dH (bq l (k+1)) (bq l (cK l k))=true then k+1 else cK l k
def ak (l:List ai):Nat:=cK l (l.length - 1)
def qY:List ai→(Int×Int)×Bool
 | []=>((0,0),false)
 | t::r=>(bq (t::r) (ak (t::r)),true)
def aO (l:List ai)(i:Nat):List ai:=match l[i]? with
 | some t=>t.ks.list.reverse
 | none=>[]
def aK (l:List ai)(i:Nat):List ai:=l.take i++l.drop (i+1)
def C9:List ai→List ai
 | []=>[]
 | t::r=>aP (aO (t::r) (ak (t::r))) (aK (t::r) (ak (t::r)))
def G6:List ai→Nat
 | []=>0
 | t::r=>aI (aO (t::r) (ak (t::r))) (aK (t::r) (ak (t::r)))
theorem eU (b:List ai):aP [] b=b:=by unfold aP;rfl
theorem dM (a:List ai):aP a []=a:=by cases a<;>(unfold aP;rfl)
theorem iE {f g:ai}{a b:List ai}(h:f.rank<g.rank):aP (f::a) (g::b)=f::aP a (g::b):=by rw [aP,if_pos h]
theorem iK {f g:ai}{a b:List ai}(h:g.rank<f.rank):aP (f::a) (g::b)=g::aP (f::a) b:=by rw [aP,if_neg (by omega),if_pos h]
theorem iD {f g:ai}{a b:List ai}(h:f.rank=g.rank):aP (f::a) (g::b)=dx (aP a b) (fu f g):=by rw [aP,if_neg (by omega),if_neg (by omega)]
theorem iH (b:List ai):aI [] b=0:=by unfold aI;rfl
theorem gq (a:List ai):aI a []=0:=by cases a<;>(unfold aI;rfl)
theorem jR {f g:ai}{a b:List ai}(h:f.rank<g.rank):aI (f::a) (g::b)=aI a (g::b):=by rw [aI,if_pos h]
theorem kP {f g:ai}{a b:List ai}(h:g.rank<f.rank):aI (f::a) (g::b)=aI (f::a) b:=by rw [aI,if_neg (by omega),if_pos h]
theorem jO {f g:ai}{a b:List ai}(h:f.rank=g.rank):aI (f::a) (g::b)=1+aI a b+bg (aP a b) (fu f g):=by rw [aI,if_neg (by omega),if_neg (by omega)]
theorem gW {P:List ai→List ai→Prop}(h1:∀b,P [] b)(h2:∀f a,P (f::a) [])
  (h3:∀f a g b,f.rank<g.rank→P a (g::b)→P (f::a) (g::b)) (h4:∀f a g b,g.rank<f.rank→P (f::a) b→P (f::a) (g::b))
  (h5:∀f a g b,f.rank=g.rank→P a b→P (f::a) (g::b)):∀a b,P a b:=by
 have key:∀(n:Nat) (a b:List ai),a.length+b.length=n→P a b:=by
  intro n;induction n using Nat.strongRecOn with
  | ind n ih =>
   intro a b hn;match a,b with
   | [],b=>exact h1 b
   | f::a,[]=>exact h2 f a
   | f::a,g::b =>
    simp only [List.length_cons]at hn;rcases Nat.lt_trichotomy f.rank g.rank with h|h|h
    ·exact h3 f a g b h (ih (a.length+(g::b).length) (by simp only [List.length_cons];omega) _ _ rfl)
    ·exact h5 f a g b h (ih (a.length+b.length) (by omega) _ _ rfl)
    ·exact h4 f a g b h (ih ((f::a).length+b.length) (by simp only [List.length_cons];omega) _ _ rfl)
 exact fun a b=>key _ a b rfl
theorem qD (a b:ai):(fu a b).all.Perm (a.all++b.all):=by
 unfold fu;split
 ·simp only [ai.all,ay.all];refine List.Perm.trans ?_ List.perm_append_comm;simp only [List.cons_append,List.append_assoc];refine List.Perm.cons _ (List.Perm.append_left _ ?_);have:=List.perm_append_comm (l₁:=a.x::(a.bs++a.ks.all)) (l₂:=b.ks.all);simpa using this
 ·simp only [ai.all,ay.all];simp only [List.cons_append,List.append_assoc];refine List.Perm.cons _ (List.Perm.append_left _ ?_);have:=List.perm_append_comm (l₁:=b.x::(b.bs++b.ks.all)) (l₂:=a.ks.all);simpa using this
theorem lu:∀(l:List ai) (t:ai),(aR (dx l t)).Perm (t.all++aR l)
 | [],t=>by simp [dx,aR]
 | u::r,t=>by
  unfold dx;split
  ·exact List.Perm.refl _
  ·refine (lu r (fu t u)).trans ?_;simp only [aR];rw [←List.append_assoc];exact (qD t u).append_right _
theorem ji:∀a b:List ai,(aR (aP a b)).Perm (aR a++aR b):=by
 refine gW ?_ ?_ ?_ ?_ ?_
 ·intro b;rw [eU];exact List.Perm.refl _
 ·intro f a;rw [dM];simp [aR]
 ·intro f a g b h ih;rw [iE h];simp only [aR,List.append_assoc]at ih ⊢;exact ih.append_left _
 ·intro f a g b h ih;rw [iK h];simp only [aR,List.append_assoc]at ih ⊢;refine (ih.append_left _).trans ?_;rw [←List.append_assoc,←List.append_assoc,←List.append_assoc,←List.append_assoc];refine List.Perm.append_right _ ?_;rw [List.append_assoc];exact List.perm_append_comm
 ·intro f a g b h ih;rw [iD h];refine (lu _ _).trans ?_;refine ((qD f g).append ih).trans ?_;simp only [aR,List.append_assoc];refine List.Perm.append_left _ ?_;rw [←List.append_assoc,←List.append_assoc];exact List.perm_append_comm.append_right _
theorem aG:∀l:List ai,(aR l).length=ah l
 | []=>rfl
 | t::r=>by simp only [aR,ah,List.length_append,t.aD,aG r]
theorem fe (a b:List ai):ah (aP a b)=ah a+ah b:=by
 have h:=(ji a b).length_eq;rw [aG,List.length_append,aG,aG]at h;exact h
theorem EC (h:List ai)(x:Int×Int):(aR (za h x)).Perm (x::aR h):=by
 have:=lu h (bY x);simpa [za,bY,ai.all,ay.all] using this
theorem yK:∀(l:List (Int×Int)) (h:List ai),(aR (l.foldl za h)).Perm (aR h++l)
 | [],h=>by simp
 | x::r,h=>by
  refine (yK r (za h x)).trans ?_;refine ((EC h x).append_right r).trans ?_;simp only [List.cons_append];exact List.perm_middle.symm
theorem BX (l:List (Int×Int)):(aR (G9 l)).Perm l:=by have:=yK l [];simpa [aR,G9] using this
theorem EG (l:List (Int×Int)):ah (G9 l)=l.length:=by rw [←aG];exact (BX l).length_eq
theorem nG:∀(l:List ai) (t:ai),(dx l t).length+bg l t=l.length+1
 | [],t=>rfl
 | u::r,t=>by
  unfold dx bg;split
  ·simp
  ·have:=nG r (fu t u);simp only [List.length_cons];omega
theorem kH:∀a b:List ai,(aP a b).length+aI a b=a.length+b.length:=by
 refine gW ?_ ?_ ?_ ?_ ?_
 ·intro b;rw [eU,iH];simp
 ·intro f a;rw [dM,gq];simp
 ·intro f a g b h ih;rw [iE h,jR h];simp only [List.length_cons]at *;omega
 ·intro f a g b h ih;rw [iK h,kP h];simp only [List.length_cons]at *;omega
 ·intro f a g b h ih;rw [iD h,jO h];have:=nG (aP a b) (fu f g);simp only [List.length_cons]at *;omega
def ay.hok:ay→Prop
 | .nil=>True
 | .cons x bs ks r=>(∀e∈bs++ks.all,dH e x=false)∧ks.hok∧r.hok
def ai.hok (t:ai):Prop:=(∀e∈t.bs++t.ks.all,dH e t.x=false)∧t.ks.hok
def ay.bin:ay→Prop
 | .nil=>True
 | .cons _ bs ks r=>bs=[]∧ks.len=r.len∧ks.bin∧r.bin
def ai.bin (t:ai):Prop:=t.bs=[]∧t.ks.bin
structure rX (h:List ai):Prop where
 hok:∀t∈h,t.hok
 bin:∀t∈h,t.bin
 rise:h.Pairwise (fun a b=>a.rank<b.rank)
structure uj (h:List ai):Prop where
 ok:rX h
 fit:fits (aR h)
theorem uj.hok {h:List ai}(k:uj h):∀t∈h,t.hok:=k.ok.hok
theorem uj.bin {h:List ai}(k:uj h):∀t∈h,t.bin:=k.ok.bin
theorem uj.rise {h:List ai}(k:uj h):h.Pairwise (fun a b=>a.rank<b.rank):=k.ok.rise
theorem ai.hok.le {t:ai}(h:t.hok){e:Int×Int}(he:e∈t.all):dH e t.x=false:=by
 rcases List.mem_cons.1 he with rfl|he
 ·exact qA.irrefl _
 ·exact h.1 e he
theorem jm {a b:ai}(ha:a.hok)(hb:b.hok):(fu a b).hok:=by
 unfold fu;split
 next hv =>
  have hv':dH a.x b.x=false:=by rw [iA];rw [ku]at hv;omega
  refine ⟨fun e he=>?_,⟨ha.1,ha.2,hb.2⟩⟩;simp only [ay.all]at he;rcases List.mem_append.1 he with he|he
  ·exact hb.1 e (List.mem_append.2 (.inl he))
  ·rcases List.mem_append.1 he with he|he
   ·exact qA.ntrans _ _ _ (ha.le he) hv'
   ·exact hb.1 e (List.mem_append.2 (.inr he))
 next hv =>
  have hv':dH b.x a.x=false:=by simpa using hv
  refine ⟨fun e he=>?_,⟨hb.1,hb.2,ha.2⟩⟩;simp only [ay.all]at he;rcases List.mem_append.1 he with he|he
  ·exact ha.1 e (List.mem_append.2 (.inl he))
  ·rcases List.mem_append.1 he with he|he
   ·exact qA.ntrans _ _ _ (hb.le he) hv'
   ·exact ha.1 e (List.mem_append.2 (.inr he))
theorem fA {a b:ai}(h:a.rank=b.rank):(fu a b).rank=a.rank+1:=by
 unfold fu;split<;>simp only [ai.rank,ay.len]at h ⊢ <;> omega
theorem zx {a b:ai}(h:a.rank=b.rank)(ha:a.bin)(hb:b.bin):(fu a b).bin:=by
 unfold fu;split
 ·exact ⟨hb.1,ha.1,h,ha.2,hb.2⟩
 ·exact ⟨ha.1,hb.1,h.symm,hb.2,ha.2⟩
theorem ay.xI:∀{w:ay},w.bin→w.size+1=2 ^ w.len
 | .nil,_=>rfl
 | .cons x bs ks r,⟨h1,h2,h3,h4⟩=>by
  have i1:=ay.xI h3;have i2:=ay.xI h4;subst h1;rw [h2]at i1;simp only [ay.size,ay.len,List.length_nil,Nat.pow_succ];omega
theorem ai.bin.GU {t:ai}(h:t.bin):t.size=2 ^ t.rank:=by
 have:=ay.xI h.2;simp only [ai.size,ai.rank,h.1,List.length_nil];omega
theorem rQ:∀(l:List ai) (t:ai),t.hok→t.bin→(∀u∈l,t.rank≤u.rank)→(∀u∈l,u.hok)→(∀u∈l,u.bin)→l.Pairwise (fun a b=>a.rank<b.rank) →
  (∀u∈dx l t,u.hok)∧(∀u∈dx l t,u.bin)∧(dx l t).Pairwise (fun a b=>a.rank<b.rank) ∧ ∀u∈dx l t,t.rank≤u.rank
 | [],t,h1,h2,_,_,_,_=>by simp [dx,h1,h2]
 | u::r,t,h1,h2,h3,h4,h5,h6=>by
  unfold dx;obtain ⟨h7,h8⟩:=List.pairwise_cons.1 h6;have hu:=h3 u (by simp);split
  next hr =>
   refine ⟨fun v hv=>?_,fun v hv=>?_,List.pairwise_cons.2 ⟨fun v hv=>?_,h6⟩,fun v hv=>?_⟩
   ·rcases List.mem_cons.1 hv with rfl|hv;exact h1;exact h4 v hv
   ·rcases List.mem_cons.1 hv with rfl|hv;exact h2;exact h5 v hv
   ·rcases List.mem_cons.1 hv with rfl|hv;exact hr;exact Nat.lt_trans hr (h7 v hv)
   ·rcases List.mem_cons.1 hv with rfl|hv;exact Nat.le_refl _;exact h3 v hv
  next hr =>
   have he:t.rank=u.rank:=by omega
   have hk:=fA he;obtain ⟨g1,g2,g3,g4⟩:=rQ r (fu t u) (jm h1 (h4 u (by simp))) (zx he h2 (h5 u (by simp))) (fun v hv=>by have:=h7 v hv;omega) (fun v hv=>h4 v (by simp [hv])) (fun v hv=>h5 v (by simp [hv])) h8;exact ⟨g1,g2,g3,fun v hv=>by have:=g4 v hv;omega⟩
theorem qC:∀a b:List ai,(∀t∈a,t.hok)→(∀t∈b,t.hok)→(∀t∈a,t.bin)→(∀t∈b,t.bin)→a.Pairwise (fun a b=>a.rank<b.rank)→b.Pairwise (fun a b=>a.rank<b.rank) →
  (∀u∈aP a b,u.hok)∧(∀u∈aP a b,u.bin)∧(aP a b).Pairwise (fun a b=>a.rank<b.rank) ∧ ∀k,(∀u∈a,k≤u.rank)→(∀u∈b,k≤u.rank) → ∀u∈aP a b,k≤u.rank:=by
 refine gW (P:=fun a b=>(∀t∈a,t.hok)→(∀t∈b,t.hok)→(∀t∈a,t.bin)→(∀t∈b,t.bin)→a.Pairwise (fun a b=>a.rank<b.rank)→b.Pairwise (fun a b=>a.rank<b.rank) →
  (∀u∈aP a b,u.hok)∧(∀u∈aP a b,u.bin)∧(aP a b).Pairwise (fun a b=>a.rank<b.rank) ∧ ∀k,(∀u∈a,k≤u.rank)→(∀u∈b,k≤u.rank) → ∀u∈aP a b,k≤u.rank) ?_ ?_ ?_ ?_ ?_
 ·intro b _ h2 _ h4 _ h6;rw [eU];exact ⟨h2,h4,h6,fun k _ hk=>hk⟩
 ·intro f a h1 _ h3 _ h5 _;rw [dM];exact ⟨h1,h3,h5,fun k hk _=>hk⟩
 ·intro f a g b h ih h1 h2 h3 h4 h5 h6;rw [iE h];obtain ⟨p1,p2⟩:=List.pairwise_cons.1 h5;obtain ⟨q1,q2⟩:=List.pairwise_cons.1 h6;obtain ⟨g1,g2,g3,g4⟩:=ih (fun t ht=>h1 t (by simp [ht])) h2 (fun t ht=>h3 t (by simp [ht])) h4 p2 h6;refine ⟨fun v hv=>?_,fun v hv=>?_,List.pairwise_cons.2 ⟨fun v hv=>?_,g3⟩,fun k hk1 hk2 v hv=>?_⟩
  ·rcases List.mem_cons.1 hv with rfl|hv;exact h1 _ (by simp);exact g1 v hv
  ·rcases List.mem_cons.1 hv with rfl|hv;exact h3 _ (by simp);exact g2 v hv
  ·refine g4 (f.rank+1) (fun u hu=>p1 u hu) (fun u hu=>?_) v hv;rcases List.mem_cons.1 hu with rfl|hu
   ·exact h
   ·have:=q1 u hu;omega
  ·rcases List.mem_cons.1 hv with rfl|hv;exact hk1 _ (by simp);exact g4 k (fun u hu=>hk1 u (by simp [hu])) hk2 v hv
 ·intro f a g b h ih h1 h2 h3 h4 h5 h6;rw [iK h];obtain ⟨p1,p2⟩:=List.pairwise_cons.1 h5;obtain ⟨q1,q2⟩:=List.pairwise_cons.1 h6;obtain ⟨g1,g2,g3,g4⟩:=ih h1 (fun t ht=>h2 t (by simp [ht])) h3 (fun t ht=>h4 t (by simp [ht])) h5 q2;refine ⟨fun v hv=>?_,fun v hv=>?_,List.pairwise_cons.2 ⟨fun v hv=>?_,g3⟩,fun k hk1 hk2 v hv=>?_⟩
  ·rcases List.mem_cons.1 hv with rfl|hv;exact h2 _ (by simp);exact g1 v hv
  ·rcases List.mem_cons.1 hv with rfl|hv;exact h4 _ (by simp);exact g2 v hv
  ·refine g4 (g.rank+1) (fun u hu=>?_) (fun u hu=>q1 u hu) v hv;rcases List.mem_cons.1 hu with rfl|hu
   ·exact h
   ·have:=p1 u hu;omega
  ·rcases List.mem_cons.1 hv with rfl|hv;exact hk2 _ (by simp);exact g4 k hk1 (fun u hu=>hk2 u (by simp [hu])) v hv
 ·intro f a g b h ih h1 h2 h3 h4 h5 h6;rw [iD h];obtain ⟨p1,p2⟩:=List.pairwise_cons.1 h5;obtain ⟨q1,q2⟩:=List.pairwise_cons.1 h6;obtain ⟨g1,g2,g3,g4⟩:=ih (fun t ht=>h1 t (by simp [ht])) (fun t ht=>h2 t (by simp [ht])) (fun t ht=>h3 t (by simp [ht])) (fun t ht=>h4 t (by simp [ht])) p2 q2;have hk:=fA h;have g5:=g4 (f.rank+1) (fun u hu=>p1 u hu) (fun u hu=>by have:=q1 u hu;omega);obtain ⟨k1,k2,k3,k4⟩:=rQ (aP a b) (fu f g) (jm (h1 f (by simp)) (h2 g (by simp))) (zx h (h3 f (by simp)) (h4 g (by simp))) (fun u hu=>by have:=g5 u hu;omega) g1 g2 g3;refine ⟨k1,k2,k3,fun k hk1 hk2 v hv=>?_⟩;have:=k4 v hv;have:=hk1 f (by simp);omega
theorem wE:rX []:=⟨by simp,by simp,List.Pairwise.nil⟩
theorem GY:uj []:=⟨wE,by simp [aR,fits.nil]⟩
theorem Az {a b:List ai}(ha:rX a)(hb:rX b):rX (aP a b):=by
 obtain ⟨h1,h2,h3, -⟩:=qC a b ha.hok hb.hok ha.bin hb.bin ha.rise hb.rise;exact ⟨h1,h2,h3⟩
theorem oN (x:Int×Int):(bY x).hok:=⟨by simp [bY,ay.all],trivial⟩
theorem wL (x:Int×Int):(bY x).bin:=⟨rfl,trivial⟩
theorem Gh {h:List ai}(x:Int×Int)(hh:rX h):rX (za h x):=by
 obtain ⟨h1,h2,h3, -⟩:=rQ h (bY x) (oN x) (wL x) (fun u _=>Nat.zero_le _) hh.hok hh.bin hh.rise;exact ⟨h1,h2,h3⟩
theorem Ap:∀(l:List (Int×Int)) (h:List ai),rX h→rX (l.foldl za h)
 | [],_,hh=>hh
 | x::r,_,hh=>Ap r _ (Gh x hh)
theorem GI (l:List (Int×Int)):rX (G9 l):=Ap l [] wE
theorem ay.lF:∀w:ay,w.list.length=w.len
 | .nil=>rfl
 | .cons _ _ _ r=>by simp only [ay.list,ay.len,List.length_cons,r.lF]
theorem ay.nE:∀w:ay,aR w.list=w.all
 | .nil=>rfl
 | .cons x bs ks r=>by simp only [ay.list,aR,ay.all,ai.all,r.nE]
theorem ay.lK:∀{w:ay},w.hok → ∀t∈w.list,t.hok
 | .nil,_,_,ht=>by simp [ay.list]at ht
 | .cons x bs ks r,h,t,ht=>by
  rcases List.mem_cons.1 ht with rfl|ht
  ·exact ⟨h.1,h.2.1⟩
  ·exact ay.lK h.2.2 t ht
theorem ay.uG:∀{w:ay},w.bin → ∀t∈w.list,t.bin∧t.rank<w.len
 | .nil,_,_,ht=>by simp [ay.list]at ht
 | .cons x bs ks r,h,t,ht=>by
  rcases List.mem_cons.1 ht with rfl|ht
  ·exact ⟨⟨h.1,h.2.2.1⟩,by simp only [ai.rank,ay.len];have:=h.2.1;omega⟩
  ·have:=ay.uG h.2.2.2 t ht;exact ⟨this.1,by simp only [ay.len];omega⟩
theorem ay.uO:∀{w:ay},w.bin→w.list.reverse.Pairwise (fun a b=>a.rank<b.rank)
 | .nil,_=>by simp [ay.list]
 | .cons x bs ks r,h=>by
  simp only [ay.list,List.reverse_cons,List.pairwise_append];refine ⟨ay.uO h.2.2.2,by simp,fun a ha b hb=>?_⟩;simp only [List.mem_singleton]at hb;subst hb;have:=(ay.uG h.2.2.2 a (by simpa using ha)).2;simp only [ai.rank]at *;have:=h.2.1;omega
theorem iW (a b:List ai):aR (a++b)=aR a++aR b:=by
 induction a with
 | nil=>rfl
 | cons t r ih=>simp only [List.cons_append,aR,ih,List.append_assoc]
theorem jc:∀l:List ai,(aR l.reverse).Perm (aR l)
 | []=>List.Perm.refl _
 | t::r=>by
  rw [List.reverse_cons,iW];simp only [aR,List.append_nil];exact ((jc r).append_right _).trans List.perm_append_comm
theorem uH {l:List ai}{e:Int×Int}(h:e∈aR l):∃t∈l,e∈t.all:=by
 induction l with
 | nil=>cases h
 | cons u r ih =>
  rcases List.mem_append.1 h with h|h
  ·exact ⟨u,by simp,h⟩
  ·obtain ⟨t,ht,he⟩:=ih h;exact ⟨t,by simp [ht],he⟩
theorem mO (l:List ai):∀k,cK l k≤k
 | 0=>Nat.le_refl _
 | k+1=>by unfold cK;split;exact Nat.le_refl _;have:=mO l k;omega
theorem iB (l:List ai):∀k i,i≤k→dH (bq l i) (bq l (cK l k))=false
 | 0,i,hi=>by
  obtain rfl:i=0:=by omega
  exact qA.irrefl _
 | k+1,i,hi=>by
  unfold cK;split
  next h =>
   by_cases e:i=k+1
   ·subst e;exact qA.irrefl _
   ·have h1:=iB l k i (by omega);have h2:dH (bq l (cK l k)) (bq l (k+1))=false:=by rw [iA];rw [ku]at h;omega
    exact qA.ntrans _ _ _ h1 h2
  next h =>
   by_cases e:i=k+1
   ·subst e;simpa using h
   ·exact iB l k i (by omega)
theorem dz {l:List ai}(h:l≠[]):ak l<l.length:=by
 have:=mO l (l.length - 1);have:0<l.length:=List.length_pos_iff.2 h;unfold ak;omega
theorem eH {l:List ai}{i:Nat}(h:i<l.length):(aR l).Perm (l[i].all++aR (aK l i)):=by
 have e:l=l.take i++l[i]::l.drop (i+1):=by rw [List.getElem_cons_drop,List.take_append_drop]
 have h1:aR l=aR (l.take i)++(l[i].all++aR (l.drop (i+1))):=by
  conv=>lhs;rw [e]
  rw [iW];rfl
 rw [h1,aK,iW,←List.append_assoc,←List.append_assoc];exact List.perm_append_comm.append_right _
theorem dY {l:List ai}{i:Nat}{t:ai}(h:t∈aK l i):t∈l:=by
 rcases List.mem_append.1 h with h|h
 ·exact List.mem_of_mem_take h
 ·exact List.mem_of_mem_drop h
theorem lY {l:List ai}{i:Nat}(h:l.Pairwise (fun a b=>a.rank<b.rank)):(aK l i).Pairwise (fun a b=>a.rank<b.rank):=by
 refine List.Pairwise.sublist ?_ h;have:(l.take i++l.drop (i+1)).Sublist (l.take i++l.drop i):=List.Sublist.append (List.Sublist.refl _) (by rw [←List.drop_drop];exact List.drop_sublist _ _);rwa [List.take_append_drop]at this
theorem Ct {h:List ai}(hh:rX h):rX (C9 h):=by
 match h,hh with
 | [],_=>exact wE
 | t::r,hh =>
  have hl:=dz (l:=t::r) (by simp);have hm:=List.getElem_mem hl;have hg:(t::r)[ak (t::r)]?=some (t::r)[ak (t::r)]:=List.getElem?_eq_getElem hl;have hk:aO (t::r) (ak (t::r))=((t::r)[ak (t::r)]).ks.list.reverse:=by unfold aO;rw [hg]
  show rX (aP (aO (t::r) (ak (t::r))) (aK (t::r) (ak (t::r))));rw [hk];generalize (t::r)[ak (t::r)]=u at *;have hu:=hh.hok u hm;have hb:=hh.bin u hm;exact Az ⟨fun v hv=>ay.lK hu.2 v (by simpa using hv),fun v hv=>(ay.uG hb.2 v (by simpa using hv)).1,ay.uO hb.2⟩ ⟨fun v hv=>hh.hok v (dY hv),fun v hv=>hh.bin v (dY hv),lY hh.rise⟩
theorem Ec {h:List ai}(hb:∀t∈h,t.bin)(hne:h≠[]):(aR h).Perm ((qY h).1::aR (C9 h)):=by
 match h,hne with
 | t::r,_ =>
  have hl:=dz (l:=t::r) (by simp);have hm:=List.getElem_mem hl;have hg:(t::r)[ak (t::r)]?=some (t::r)[ak (t::r)]:=List.getElem?_eq_getElem hl;have hp:=eH hl;have hroot:bq (t::r) (ak (t::r))=((t::r)[ak (t::r)]).x:=by unfold bq;rw [hg]
  have hk:aO (t::r) (ak (t::r))=((t::r)[ak (t::r)]).ks.list.reverse:=by unfold aO;rw [hg]
  show (aR (t::r)).Perm (bq (t::r) (ak (t::r))::aR (aP (aO (t::r) (ak (t::r))) (aK (t::r) (ak (t::r)))));rw [hroot,hk];generalize (t::r)[ak (t::r)]=u at *;have hall:u.all=u.x::u.ks.all:=by simp only [ai.all,(hb u hm).1,List.nil_append]
  rw [hall]at hp;refine hp.trans ?_;rw [List.cons_append];refine List.Perm.cons _ ((List.Perm.append_right _ ?_).trans (ji _ _).symm);exact ((jc _).trans (by rw [ay.nE])).symm
theorem Dp {h:List ai}(hh:uj h):uj (C9 h):=by
 refine ⟨Ct hh.ok,?_⟩;by_cases hne:h=[]
 ·subst hne;simp [C9,aR,fits.nil]
 ·exact (hh.fit.perm (Ec hh.bin hne)).cons.2
theorem Ei {h:List ai}(hh:rX h)(hne:h≠[]):dw (aR h)=(qY h).1::dw (aR (C9 h)):=by
 match h,hne with
 | t::r,_ =>
  have hl:=dz (l:=t::r) (by simp);have hm:=List.getElem_mem hl;have hg:(t::r)[ak (t::r)]?=some (t::r)[ak (t::r)]:=List.getElem?_eq_getElem hl;have hp:=eH hl;have hroot:bq (t::r) (ak (t::r))=((t::r)[ak (t::r)]).x:=by unfold bq;rw [hg]
  have hmin:∀e∈aR (t::r),dH e ((t::r)[ak (t::r)]).x=false:=by
   intro e he;obtain ⟨v,hv,hev⟩:=uH he;obtain ⟨j,hj,rfl⟩:=List.getElem_of_mem hv;have h1:=(hh.hok _ hv).le hev;have h2:=iB (t::r) ((t::r).length - 1) j (by omega);rw [show cK (t::r) ((t::r).length - 1)=ak (t::r) from rfl,hroot]at h2;have h3:bq (t::r) j=((t::r)[j]).x:=by unfold bq;rw [List.getElem?_eq_getElem hj]
   rw [h3]at h2;exact qA.ntrans _ _ _ h1 h2
  have hk:aO (t::r) (ak (t::r))=((t::r)[ak (t::r)]).ks.list.reverse:=by unfold aO;rw [hg]
  show dw (aR (t::r))=bq (t::r) (ak (t::r))::dw (aR (aP (aO (t::r) (ak (t::r))) (aK (t::r) (ak (t::r)))));rw [hroot,hk];generalize (t::r)[ak (t::r)]=u at *;have hb:=hh.bin u hm;have hall:u.all=u.x::u.ks.all:=by simp only [ai.all,hb.1,List.nil_append]
  rw [hall]at hp;rw [bX hp,bX (ji _ _),List.cons_append];refine (pU (fun e he=>hmin e (hp.symm.subset (by simp only [List.cons_append];exact List.mem_cons_of_mem _ he)))).trans ?_;congr 1
  refine bX (List.Perm.append_right _ ?_);exact ((jc _).trans (by rw [ay.nE])).symm
def Gm:List ai→List UInt8
 | []=>[]
 | t::r=>32::(t.show++Gm r)
def Gp:List ai→List UInt8
 | []=>[46]
 | t::r=>t.show++Gm r
end Go.Proofs.YtmeodbjlmjpnbaaGreat
namespace Go.Proofs.YtmeodbjlmjpnbaaGreat
open Go.Sort Go.RowKit
theorem rH {l:List ai}{t:ai}(h:t∈l):t.size≤ah l:=by
 induction l with
 | nil=>cases h
 | cons u r ih =>
  simp only [ah];rcases List.mem_cons.1 h with rfl|h
  ·omega
  ·have:=ih h;omega
theorem yO (a b:List ai):aI a b≤a.length+b.length:=by have:=kH a b;omega
theorem rV {h:List ai}(hz:ah h=0):h=[]:=by
 cases h with
 | nil=>rfl
 | cons t r=>simp only [ah,ai.size]at hz;omega
end Go.Proofs.YtmeodbjlmjpnbaaGreat
namespace Go.Proofs.YtmeodbjlmjpnbaaGreat
open Go.Sort Go.RowKit
theorem Bt.pair {mo:Option Nat}{w w':World}{b:Nat}{x y:Int}(h:Bt mo w w')(hp:bn w b x y)(hb:∀k,mo=some k→b≠k):bn w' b x y:=by
 obtain ⟨k,l,m,n,o⟩:=hp;have e:w'.heap[b]?=w.heap[b]?:=h.block b o (fun e=>hb b e rfl);exact ⟨(World.cell?_of_block (w:=w) e).trans k,(World.cell?_of_block (w:=w) e).trans l,(World.frozen?_of_block (w:=w) e).trans m,(World.frozen?_of_block (w:=w) e).trans n,Nat.lt_of_lt_of_le o h.size⟩
theorem dP {w:World}{a:Addr}{v:Value}(h:w.cell? a=some v)(o:Obj):(w.alloc o).cell? a=some v:=by
 have hl:a.block<w.heap.size:=by
  unfold World.cell? at h
  cases hh:w.heap[a.block]? with
  | none=>rw [hh]at h;cases h
  | some o=>exact lt_of_heap hh
 exact (((Below.refl w.heap.size w).alloc (Nat.le_refl _) o).cell hl).trans h
theorem lX {W W':World}{b:Nat}{x:Int×Int}{bp kp:Option Addr}{r o:Int}(h:W.heap[b]?=some (dK x bp r kp o))(hk:Kp W W'):W'.heap[b]?=some (dK x bp r kp o):=hk b _ _ (.inl rfl) h
structure Loc (mo:Option Nat)(w:World)(b:Nat)(x y:Int):Prop where
 blk:w.heap[b]?=some (.cells #[.int .i64 x,.int .i64 y] 29 (0,0))
 ne:∀k,mo=some k→b≠k
section
variable {mo:Option Nat}{w w' w0:World}{b:Nat}{x y c m:Int}
theorem Loc.lt (h:Loc mo w b x y):b<w.heap.size:=lt_of_heap h.blk
theorem Loc.pair (h:Loc mo w b x y):bn w b x y:=by
 have h':=h.blk;exact ⟨by simp [World.cell?,h'],by simp [World.cell?,h'],by simp [World.frozen?,h'],by simp [World.frozen?,h'],lt_of_heap h'⟩
theorem Loc.stay (h:Loc mo w b x y)(hb:Below w.heap.size w w'):Loc mo w' b x y:=⟨(hb.block b h.lt).trans h.blk,h.ne⟩
theorem Loc.alloc (h:Loc mo w b x y)(o:Obj):Loc mo (w.alloc o) b x y:=h.stay (bG o)
theorem Loc.drew (h:Loc mo w b x y):Loc mo w.drew b x y:=h.stay ((Below.refl _ _).drew)
theorem Loc.turn (h:Loc mo w b x y)(hb:Bt mo w w'):Loc mo w' b x y:=⟨(hb.block b h.lt (fun e=>h.ne b e rfl)).trans h.blk,h.ne⟩
theorem Loc.new (h:aW w mo c m)(x y:Int):Loc mo (w.alloc (.cells #[.int .i64 x,.int .i64 y] 29)) w.heap.size x y:=⟨aJ rfl,fun k e=>by subst e;have:=h.lt;omega⟩
theorem Loc.other (h:Loc mo w b x y){g j:Nat}(hp:g≠b)(u:Value):Loc mo (w.setCell ⟨g,j,none⟩ u) b x y:=⟨(Below.heap_setCell w ⟨g,j,none⟩ u b (fun e=>hp e.symm)).trans h.blk,h.ne⟩
theorem Loc.set (h:Loc mo w b x y)(x' y':Int):Loc mo ((w.setCell ⟨b,0,none⟩ (.int .i64 x')).setCell ⟨b,1,none⟩ (.int .i64 y')) b x' y':=⟨heap_put (heap_put h.blk _) _,h.ne⟩
theorem Bt.Hf {g j:Nat}(h:Bt mo w0 w)(hg:w0.heap.size≤g)(u:Value):Bt mo w0 (w.setCell ⟨g,j,none⟩ u) :=
 ⟨h.os,h.tape,h.output,by simpa [World.setCell] using h.size,fun k hk hm=>(Below.heap_setCell w ⟨g,j,none⟩ u k (fun e=>by have:k=g:=e;omega)).trans (h.block k hk hm)⟩
theorem aW.E9 {g j:Nat}(h:aW w mo c m)(hg:∀k,mo=some k→g≠k)(u:Value):aW (w.setCell ⟨g,j,none⟩ u) mo c m:=by
 cases mo with
 | none=>trivial
 | some k=>exact (Below.heap_setCell w ⟨g,j,none⟩ u k (fun e=>hg k rfl e.symm)).trans h
theorem Loc.kp (h:Loc mo w b x y)(x' y':Int):Kp w ((w.setCell ⟨b,0,none⟩ (.int .i64 x')).setCell ⟨b,1,none⟩ (.int .i64 y')) :=
 (bO.set h.blk (by unfold dV;decide) 0 _).trans (bO.set (heap_put h.blk _) (by unfold dV;decide) 1 _)
theorem nY.put (h:nY mo w0 c m w)(hL:Loc mo w b x y)(hb:w0.heap.size≤b)(x' y':Int):nY mo w0 c m ((w.setCell ⟨b,0,none⟩ (.int .i64 x')).setCell ⟨b,1,none⟩ (.int .i64 y')) :=
 ⟨(h.bt.Hf hb _).Hf hb _,(h.mt.E9 hL.ne _).E9 hL.ne _,h.kp.trans (hL.kp x' y')⟩
end
theorem vo (mo:Option Nat)(c m:Int)(y:Int×Int)(w:World)(hm:aW w mo c m)(h2:0≤m)(h3:m<1152921504606846976) :
  Calls Tryz.prog 148 #[aF mo,el y,.pointer none,.pointer none] w (bU mo c (m+1) (some (bY y)) w):=by
 obtain ⟨y1,y2⟩:=y;have HM:=hdz hm;have hp:=bn.new w y1 y2 29;have b0:=hp.c0;have b1:=hp.c1;clear hm hp;go_enter Tryz.func148,Tryz.ntmps148
 go_wp2_with fail
 ((with_reducible refine (oZ mo none _).mono ?_);rintro e w1 ⟨rfl,rfl⟩);go_wp2_with fail
 ((with_reducible refine (j5 mo c m (y1,y2) _ (HM.out.alloc _) h2 (by omega)).mono ?_);rintro e w1 ⟨p,rfl,ht,hm1,hb1⟩);have H:=hdz (af ht (af hm1 hb1));clear ht hm1 hb1 b0 b1;go_wp2_with fail
 go_ret
 exact ⟨_,rfl,H.out.1,H.out.2.1,((Bt.refl mo w).alloc _).trans H.out.2.2⟩
theorem vz (mo:Option Nat)(c m:Int)(y1 y2:Int)(p q:Option Addr)(ta tb:Option ai)(x1 x2:Int)(bs:List (Int×Int))(ks:ay)(ht:oI ta tb=some ⟨(x1,x2),bs,ks⟩)(w:World)(hm:aW w mo c m)(h0:0≤c)(h1:c<1152921504606846976)(h2:0≤m)(h3:m<1152921504606846976)
  (ha:gQ w p ta) (hb:gQ w q tb) (ka:bF ta<268435456) (kb:bF tb<268435456) (hv:dH (x1,x2) (y1,y2)=true) :
  Calls Tryz.prog 148 #[aF mo,el (y1,y2),.pointer p,.pointer q] w (bU mo (c+bZ ta tb+1) (m+bZ ta tb+1) (some ⟨(x1,x2),(y1,y2)::bs,ks⟩) w):=by
 have hsz:1+bs.length+ks.size<536870912:=by have:=pI ta tb;rw [ht]at this;simp only [bF,ai.size]at this ka kb;omega
 have hN:(bZ ta tb:Int)≤1∧0≤(bZ ta tb:Int):=by cases ta<;>cases tb<;>simp [bZ]
 have HLink:=hdz (fun W (h:aW W mo c m) ha hb=>jy mo c m p q ta tb W h h0 (by omega) h2 (by omega) ha hb (by omega) (by omega));generalize (bZ ta tb:Int)=n at *;rw [ht]at HLink;have HM:=hdz hm;have HT:=hdz (af ha hb);have HV:=hdz hv;have HS:=hdz hsz;have hp:=bn.new w y1 y2 29;have PX:=hdz (Loc.new hm y1 y2);have b0:=hp.c0;have b1:=hp.c1;clear hm ha hb hv hsz hp ht ka kb;go_enter Tryz.func148,Tryz.ntmps148
 go_wp2_with fail
 ((with_reducible refine (HLink.out _ (HM.out.alloc _) (HT.out.1.stay (bG _)) (HT.out.2.stay (bG _))).mono ?_);rintro e w1 ⟨pt,rfl,⟨t,rfl,tbp,tkp,hh,hhb,hhk⟩,hm1,hb1⟩);have PX1:=hdz (PX.out.turn hb1);have K1:=hdz (((nY.refl HM.out).alloc _).turn hm1 hb1);have HH:=hdz hh;have HL:=hdz (af hhb hhk);have s6:=aC hh (bO.refl w1);have c0:=fun o=>dP s6.c0 o;have c1:=fun o=>dP s6.c1 o;have d0:=PX1.out.pair.c0;have d1:=PX1.out.pair.c1;have c2:=fun o o'=>dP (c0 o) o';have c3:=fun o o'=>dP (c1 o) o';have g0:=s6.c0;have g1:=s6.c1;have d2:=fun o=>dP d0 o;have d3:=fun o=>dP d1 o;have d4:=fun o o'=>dP (d2 o) o';have d5:=fun o o'=>dP (d3 o) o';clear b0 b1 hh hhb hhk hm1 hb1 s6 PX HM HT HLink;go_wp2_with fail
 go_region
 focus
  have L1:=hdz ((PX1.out.alloc (.cells #[.int .i64 y1,.int .i64 y2] 29)).alloc (.cells #[.int .i64 x1,.int .i64 x2] 29)).drew;have L2:=hdz ((Loc.new (K1.out.mt) y1 y2).alloc (.cells #[.int .i64 x1,.int .i64 x2] 29)).drew;have L3:=hdz (Loc.new (K1.out.mt.alloc (.cells #[.int .i64 y1,.int .i64 y2] 29)) x1 x2).drew;have K2:=hdz ((K1.out.alloc (.cells #[.int .i64 y1,.int .i64 y2] 29)).alloc (.cells #[.int .i64 x1,.int .i64 x2] 29)).drew;have KH:=hdz (Kp.below (((Below.refl w1.heap.size w1).alloc (Nat.le_refl _) (.cells #[.int .i64 y1,.int .i64 y2] 29)).alloc (by simp) (.cells #[.int .i64 x1,.int .i64 x2] 29)).drew);rw [World.size_alloc]at L3;have NE:=hdz (show w1.heap.size≠w1.heap.size+1∧w.heap.size<w1.heap.size∧w.heap.size<w1.heap.size+1 by have:=PX1.out.lt;omega);generalize w1.heap.size+1=o at *;generalize ((w1.alloc (.cells #[.int .i64 y1,.int .i64 y2] 29)).alloc (.cells #[.int .i64 x1,.int .i64 x2] 29)).drew=w2 at *;generalize w1.heap.size=r at *
 rotate_left
 focus
  have L1:=hdz ((PX1.out.alloc (.cells #[.int .i64 x1,.int .i64 x2] 29)).alloc (.cells #[.int .i64 y1,.int .i64 y2] 29)).drew;have L3:=hdz ((Loc.new (K1.out.mt) x1 x2).alloc (.cells #[.int .i64 y1,.int .i64 y2] 29)).drew;have L2:=hdz (Loc.new (K1.out.mt.alloc (.cells #[.int .i64 x1,.int .i64 x2] 29)) y1 y2).drew;have K2:=hdz ((K1.out.alloc (.cells #[.int .i64 x1,.int .i64 x2] 29)).alloc (.cells #[.int .i64 y1,.int .i64 y2] 29)).drew;have KH:=hdz (Kp.below (((Below.refl w1.heap.size w1).alloc (Nat.le_refl _) (.cells #[.int .i64 x1,.int .i64 x2] 29)).alloc (by simp) (.cells #[.int .i64 y1,.int .i64 y2] 29)).drew);rw [World.size_alloc]at L2;have NE:=hdz (show w1.heap.size+1≠w1.heap.size∧w.heap.size<w1.heap.size+1∧w.heap.size<w1.heap.size by have:=PX1.out.lt;omega);generalize w1.heap.size+1=r at *;generalize ((w1.alloc (.cells #[.int .i64 x1,.int .i64 x2] 29)).alloc (.cells #[.int .i64 y1,.int .i64 y2] 29)).drew=w2 at *;generalize w1.heap.size=o at *
 rotate_left
 all_goals
  clear g0 g1 d0 d1 c0 c1 c2 c3 d2 d3 d4 d5 K1 PX1;have HH2:=hdz (lX HH.out KH.out);have HL2:=hdz (af (HL.out.1.kp KH.out) (HL.out.2.kp KH.out));clear HH HL KH;go_wp2_with fail
  have s6:=aC HH2.out (bO.refl w2);have c0:=s6.c0;have c1:=s6.c1;have d0:=L1.out.pair.c0;have d1:=L1.out.pair.c1;clear s6
  go_region_held3 (fun w'=>w'.cell? ⟨t,0,none⟩=some (.int .i64 x1)∧w'.cell? ⟨t,1,none⟩=some (.int .i64 x2)∧w'.cell? ⟨w.heap.size,0,none⟩=some (.int .i64 y1)∧w'.cell? ⟨w.heap.size,1,none⟩=some (.int .i64 y2)) (go_keep)
   (first|(go_at_call 140;((with_reducible refine (lM mo (c+n) (m+n) (x1,x2) (y1,y2) _ K4.out.1.mt (by omega) (by omega)).mono ?_);rintro e w5 ⟨rfl,Im,hb5⟩;rw [HV.out];have K5:=hdz (af (K4.out.1.turn Im hb5) (af (K4.out.2.1.turn hb5) (af (K4.out.2.2.1.turn hb5) (af (K4.out.2.2.2.1.turn hb5) (K4.out.2.2.2.2.trans (hb5.oG K4.out.1.mt gL))))));have f0:=(aC HH2.out K5.out.2.2.2.2).c0;have f1:=(aC HH2.out K5.out.2.2.2.2).c1;have f2:=K5.out.2.1.pair.c0;have f3:=K5.out.2.1.pair.c1;clear Im hb5))|(go_at_call 155;((with_reducible refine (fV (x1,x2) _).mono ?_);rintro e w3 ⟨rfl,hb3⟩;have K3:=hdz (af (K2.out.drew.stay hb3) (af (L1.out.drew.stay hb3) (af (L2.out.drew.stay hb3) (af (L3.out.drew.stay hb3) (bO.trans (Kp.below (Below.refl _ w2).drew) (Kp.below hb3))))));have e0:=(aC HH2.out K3.out.2.2.2.2).c0;have e1:=(aC HH2.out K3.out.2.2.2.2).c1;have e2:=K3.out.2.1.pair.c0;have e3:=K3.out.2.1.pair.c1;clear hb3))|(go_at_call 155;((with_reducible refine (fV (y1,y2) _).mono ?_);rintro e w4 ⟨rfl,hb4⟩;have K4:=hdz (af (K3.out.1.stay hb4) (af (K3.out.2.1.stay hb4) (af (K3.out.2.2.1.stay hb4) (af (K3.out.2.2.2.1.stay hb4) (K3.out.2.2.2.2.trans (Kp.below hb4))))));have i0:=(aC HH2.out K4.out.2.2.2.2).c0;have i1:=(aC HH2.out K4.out.2.2.2.2).c1;have i2:=K4.out.2.1.pair.c0;have i3:=K4.out.2.1.pair.c1;clear hb4)))
  clear c0 c1 d0 d1 e0 e1 e2 e3 f0 f1 f2 f3 i0 i1 i2 i3 K2 K3 K4 L1 L2 L3;have HH5:=hdz (lX HH2.out K5.out.2.2.2.2);have HL5:=hdz (af (HL2.out.1.kp K5.out.2.2.2.2) (HL2.out.2.kp K5.out.2.2.2.2));have T5:=hdz K5.out.1;have L1:=hdz K5.out.2.1;have L2:=hdz K5.out.2.2.1;have L3:=hdz K5.out.2.2.2.1;clear K5 HH2 HL2;have s6:=aC HH5.out (bO.refl _);have c0:=s6.c0;have c1:=s6.c1;have d0:=L1.out.pair.c0;have d1:=L1.out.pair.c1;have e0:=L2.out.pair.c0;have e1:=L2.out.pair.c1;have e2:=L2.out.pair.z0;have e3:=L2.out.pair.z1;have i0:=L3.out.pair.c0;have i1:=L3.out.pair.c1;have i2:=L3.out.pair.z0;have i3:=L3.out.pair.z1;have ne1:=NE.out.1;have ne2:=NE.out.2.1;have ne3:=NE.out.2.2;clear s6;go_wp2_with fail
  go_region
  clear c0 c1 d0 d1 e0 e1 e2 e3 i0 i1 i2 i3;have KA:=(L2.out).kp x1 x2;have L3a:=((L3.out).other (g:=r) (j:=0) NE.out.1 (.int .i64 x1)).other (g:=r) (j:=1) NE.out.1 (.int .i64 x2);have KB:=L3a.kp y1 y2;have T6:=hdz ((T5.out.put L2.out (by omega) x1 x2).put L3a (by omega) y1 y2).drew;have L6:=hdz ((((L2.out).set x1 x2).other (g:=o) (j:=0) (fun e=>NE.out.1 e.symm) (.int .i64 y1)).other (g:=o) (j:=1) (fun e=>NE.out.1 e.symm) (.int .i64 y2)).drew;have M6:=hdz (L3a.set y1 y2).drew;have KK:=(KA.trans KB).trans (Kp.below ((Below.refl _ _).drew));have HH6:=hdz (lX HH5.out KK);have HL6:=hdz (af (HL5.out.1.kp KK) (HL5.out.2.kp KK));clear KA KB KK L3a L1 L2 L3 T5 HH5 HL5 ne1 ne2 ne3;generalize ((((w5.setCell { block:=r,off:=0 } (Value.int IntKind.i64 x1)).setCell { block:=r,off:=1 } (Value.int IntKind.i64 x2)).setCell { block:=o,off:=0 } (Value.int IntKind.i64 y1)).setCell { block:=o,off:=1 } (Value.int IntKind.i64 y2)).drew=w6 at *;go_wp2_with fail
  ((with_reducible refine (mZ mo (c+n+1) (m+n) _ T6.out.mt (by omega) (by omega)).mono ?_);rintro e w7 ⟨rfl,hm7,Iu⟩);have T7:=hdz (T6.out.turn hm7 Iu);have L7:=hdz (L6.out.turn Iu);have M7:=hdz (M6.out.turn Iu);have HH7:=hdz (lX HH6.out (Iu.oG T6.out.mt gL));have HL7:=hdz (af (HL6.out.1.kp (Iu.oG T6.out.mt gL)) (HL6.out.2.kp (Iu.oG T6.out.mt gL)));clear hm7 Iu T6 L6 M6 HH6 HL6;have s6:=aC HH7.out (bO.refl _);have c2:=s6.c2;have c3:=s6.c3;have c4:=s6.c4;have c5:=s6.c5;have d0:=L7.out.pair.c0;have d1:=L7.out.pair.c1;have e0:=M7.out.pair.c0;have e1:=M7.out.pair.c1;clear s6;go_wp2_with fail
  go_region_held3 (fun w'=>w'.cell? ⟨r,0,none⟩=some (.int .i64 x1)∧w'.cell? ⟨r,1,none⟩=some (.int .i64 x2)∧w'.cell? ⟨o,0,none⟩=some (.int .i64 y1)∧w'.cell? ⟨o,1,none⟩=some (.int .i64 y2)∧w'.cell? ⟨t,2,none⟩=some (.pointer tbp)∧w'.cell? ⟨t,3,none⟩=some (.int .i64 (ks.len:Int))∧w'.cell? ⟨t,4,none⟩=some (.pointer tkp)∧w'.cell? ⟨t,5,none⟩=some (.int .i64 (bs.length+ks.size:Nat))) (go_keep)
   (first|(go_at_call 158;((with_reducible refine (oV (y1,y2) tbp _).mono ?_);rintro e w8 ⟨nb,rfl,hn8,IB⟩;have T8:=hdz (T7.out.drew.stay IB);have P8:=hdz hn8;have K8:=hdz (bO.trans (Kp.below (Below.refl _ w7).drew) (Kp.below IB));have s6:=aC HH7.out K8.out;have f2:=s6.c2;have f3:=s6.c3;have f4:=s6.c4;have f5:=s6.c5;have h8:=L7.out.drew.stay IB;have j8:=M7.out.drew.stay IB;have f0:=h8.pair.c0;have f1:=h8.pair.c1;have g0:=j8.pair.c0;have g1:=j8.pair.c1;clear IB hn8 s6 h8 j8)))
  clear c2 c3 c4 c5 d0 d1 e0 e1 f0 f1 f2 f3 f4 f5 g0 g1;go_wp2_with fail
  go_ret
  have hs:=HS.out;have e2:IntKind.i64.wrap (((bs.length:Int)+ks.size)+1)=(((y1,y2)::bs).length+ks.size:Nat):=by rw [IntKind.wrap_i64];simp only [List.length_cons];omega
  rw [e2];have hk:=(T8.out.alloc (dK (x1,x2) (some ⟨nb,0,none⟩) (ks.len:Int) tkp (((y1,y2)::bs).length+ks.size:Nat)));have hk8:=K8.out.trans (Kp.below ((Below.refl _ w8).alloc (Nat.le_refl _) (dK (x1,x2) (some ⟨nb,0,none⟩) (ks.len:Int) tkp (((y1,y2)::bs).length+ks.size:Nat))));refine ⟨_,rfl,⟨w8.heap.size,rfl,some ⟨nb,0,none⟩,tkp,aJ rfl,⟨nb,tbp,rfl,?_,HL7.out.1.kp hk8⟩,HL7.out.2.kp hk8⟩,hk.mt,hk.bt⟩;exact (Kp.below ((Below.refl _ w8).alloc (Nat.le_refl _) _)) _ _ _ (.inr (.inl rfl)) P8.out
theorem sD (mo:Option Nat)(c m:Int)(y1 y2:Int)(p q:Option Addr)(ta tb:Option ai)(x1 x2:Int)(bs:List (Int×Int))(ks:ay)(ht:oI ta tb=some ⟨(x1,x2),bs,ks⟩)(w:World)(hm:aW w mo c m)(h0:0≤c)(h1:c<1152921504606846976)(h2:0≤m)(h3:m<1152921504606846976)
  (ha:gQ w p ta) (hb:gQ w q tb) (ka:bF ta<268435456) (kb:bF tb<268435456) (hv:dH (x1,x2) (y1,y2)=false) :
  Calls Tryz.prog 148 #[aF mo,el (y1,y2),.pointer p,.pointer q] w (bU mo (c+bZ ta tb+1) (m+bZ ta tb+1) (some ⟨(y1,y2),(x1,x2)::bs,ks⟩) w):=by
 have hsz:1+bs.length+ks.size<536870912:=by have:=pI ta tb;rw [ht]at this;simp only [bF,ai.size]at this ka kb;omega
 have hN:(bZ ta tb:Int)≤1∧0≤(bZ ta tb:Int):=by cases ta<;>cases tb<;>simp [bZ]
 have HLink:=hdz (fun W (h:aW W mo c m) ha hb=>jy mo c m p q ta tb W h h0 (by omega) h2 (by omega) ha hb (by omega) (by omega));generalize (bZ ta tb:Int)=n at *;rw [ht]at HLink;have HM:=hdz hm;have HT:=hdz (af ha hb);have HV:=hdz hv;have HS:=hdz hsz;have hp:=bn.new w y1 y2 29;have PX:=hdz (Loc.new hm y1 y2);have b0:=hp.c0;have b1:=hp.c1;clear hm ha hb hv hsz hp ht ka kb;go_enter Tryz.func148,Tryz.ntmps148
 go_wp2_with fail
 ((with_reducible refine (HLink.out _ (HM.out.alloc _) (HT.out.1.stay (bG _)) (HT.out.2.stay (bG _))).mono ?_);rintro e w1 ⟨pt,rfl,⟨t,rfl,tbp,tkp,hh,hhb,hhk⟩,hm1,hb1⟩);have PX1:=hdz (PX.out.turn hb1);have K1:=hdz (((nY.refl HM.out).alloc _).turn hm1 hb1);have HH:=hdz hh;have HL:=hdz (af hhb hhk);have s6:=aC hh (bO.refl w1);have c0:=fun o=>dP s6.c0 o;have c1:=fun o=>dP s6.c1 o;have d0:=PX1.out.pair.c0;have d1:=PX1.out.pair.c1;have c2:=fun o o'=>dP (c0 o) o';have c3:=fun o o'=>dP (c1 o) o';have g0:=s6.c0;have g1:=s6.c1;have d2:=fun o=>dP d0 o;have d3:=fun o=>dP d1 o;have d4:=fun o o'=>dP (d2 o) o';have d5:=fun o o'=>dP (d3 o) o';clear b0 b1 hh hhb hhk hm1 hb1 s6 PX HM HT HLink;go_wp2_with fail
 go_region
 focus
  have L1:=hdz ((PX1.out.alloc (.cells #[.int .i64 y1,.int .i64 y2] 29)).alloc (.cells #[.int .i64 x1,.int .i64 x2] 29)).drew;have L2:=hdz ((Loc.new (K1.out.mt) y1 y2).alloc (.cells #[.int .i64 x1,.int .i64 x2] 29)).drew;have L3:=hdz (Loc.new (K1.out.mt.alloc (.cells #[.int .i64 y1,.int .i64 y2] 29)) x1 x2).drew;have K2:=hdz ((K1.out.alloc (.cells #[.int .i64 y1,.int .i64 y2] 29)).alloc (.cells #[.int .i64 x1,.int .i64 x2] 29)).drew;have KH:=hdz (Kp.below (((Below.refl w1.heap.size w1).alloc (Nat.le_refl _) (.cells #[.int .i64 y1,.int .i64 y2] 29)).alloc (by simp) (.cells #[.int .i64 x1,.int .i64 x2] 29)).drew);rw [World.size_alloc]at L3;have NE:=hdz (show w1.heap.size≠w1.heap.size+1∧w.heap.size<w1.heap.size∧w.heap.size<w1.heap.size+1 by have:=PX1.out.lt;omega);generalize w1.heap.size+1=o at *;generalize ((w1.alloc (.cells #[.int .i64 y1,.int .i64 y2] 29)).alloc (.cells #[.int .i64 x1,.int .i64 x2] 29)).drew=w2 at *;generalize w1.heap.size=r at *
 rotate_left
 focus
  have L1:=hdz ((PX1.out.alloc (.cells #[.int .i64 x1,.int .i64 x2] 29)).alloc (.cells #[.int .i64 y1,.int .i64 y2] 29)).drew;have L3:=hdz ((Loc.new (K1.out.mt) x1 x2).alloc (.cells #[.int .i64 y1,.int .i64 y2] 29)).drew;have L2:=hdz (Loc.new (K1.out.mt.alloc (.cells #[.int .i64 x1,.int .i64 x2] 29)) y1 y2).drew;have K2:=hdz ((K1.out.alloc (.cells #[.int .i64 x1,.int .i64 x2] 29)).alloc (.cells #[.int .i64 y1,.int .i64 y2] 29)).drew;have KH:=hdz (Kp.below (((Below.refl w1.heap.size w1).alloc (Nat.le_refl _) (.cells #[.int .i64 x1,.int .i64 x2] 29)).alloc (by simp) (.cells #[.int .i64 y1,.int .i64 y2] 29)).drew);rw [World.size_alloc]at L2;have NE:=hdz (show w1.heap.size+1≠w1.heap.size∧w.heap.size<w1.heap.size+1∧w.heap.size<w1.heap.size by have:=PX1.out.lt;omega);generalize w1.heap.size+1=r at *;generalize ((w1.alloc (.cells #[.int .i64 x1,.int .i64 x2] 29)).alloc (.cells #[.int .i64 y1,.int .i64 y2] 29)).drew=w2 at *;generalize w1.heap.size=o at *
 rotate_left
 all_goals
  clear g0 g1 d0 d1 c0 c1 c2 c3 d2 d3 d4 d5 K1 PX1;have HH2:=hdz (lX HH.out KH.out);have HL2:=hdz (af (HL.out.1.kp KH.out) (HL.out.2.kp KH.out));clear HH HL KH;go_wp2_with fail
  have s6:=aC HH2.out (bO.refl w2);have c0:=s6.c0;have c1:=s6.c1;have d0:=L1.out.pair.c0;have d1:=L1.out.pair.c1;clear s6
  go_region_held3 (fun w'=>w'.cell? ⟨t,0,none⟩=some (.int .i64 x1)∧w'.cell? ⟨t,1,none⟩=some (.int .i64 x2)∧w'.cell? ⟨w.heap.size,0,none⟩=some (.int .i64 y1)∧w'.cell? ⟨w.heap.size,1,none⟩=some (.int .i64 y2)) (go_keep)
   (first|(go_at_call 140;((with_reducible refine (lM mo (c+n) (m+n) (x1,x2) (y1,y2) _ K4.out.1.mt (by omega) (by omega)).mono ?_);rintro e w5 ⟨rfl,Im,hb5⟩;rw [HV.out];have K5:=hdz (af (K4.out.1.turn Im hb5) (af (K4.out.2.1.turn hb5) (af (K4.out.2.2.1.turn hb5) (af (K4.out.2.2.2.1.turn hb5) (K4.out.2.2.2.2.trans (hb5.oG K4.out.1.mt gL))))));have f0:=(aC HH2.out K5.out.2.2.2.2).c0;have f1:=(aC HH2.out K5.out.2.2.2.2).c1;have f2:=K5.out.2.1.pair.c0;have f3:=K5.out.2.1.pair.c1;clear Im hb5))|(go_at_call 155;((with_reducible refine (fV (x1,x2) _).mono ?_);rintro e w3 ⟨rfl,hb3⟩;have K3:=hdz (af (K2.out.drew.stay hb3) (af (L1.out.drew.stay hb3) (af (L2.out.drew.stay hb3) (af (L3.out.drew.stay hb3) (bO.trans (Kp.below (Below.refl _ w2).drew) (Kp.below hb3))))));have e0:=(aC HH2.out K3.out.2.2.2.2).c0;have e1:=(aC HH2.out K3.out.2.2.2.2).c1;have e2:=K3.out.2.1.pair.c0;have e3:=K3.out.2.1.pair.c1;clear hb3))|(go_at_call 155;((with_reducible refine (fV (y1,y2) _).mono ?_);rintro e w4 ⟨rfl,hb4⟩;have K4:=hdz (af (K3.out.1.stay hb4) (af (K3.out.2.1.stay hb4) (af (K3.out.2.2.1.stay hb4) (af (K3.out.2.2.2.1.stay hb4) (K3.out.2.2.2.2.trans (Kp.below hb4))))));have i0:=(aC HH2.out K4.out.2.2.2.2).c0;have i1:=(aC HH2.out K4.out.2.2.2.2).c1;have i2:=K4.out.2.1.pair.c0;have i3:=K4.out.2.1.pair.c1;clear hb4)))
  clear c0 c1 d0 d1 e0 e1 e2 e3 f0 f1 f2 f3 i0 i1 i2 i3 K2 K3 K4 L1 L2 L3;have HH5:=hdz (lX HH2.out K5.out.2.2.2.2);have HL5:=hdz (af (HL2.out.1.kp K5.out.2.2.2.2) (HL2.out.2.kp K5.out.2.2.2.2));have T5:=hdz K5.out.1;have L1:=hdz K5.out.2.1;have L2:=hdz K5.out.2.2.1;have L3:=hdz K5.out.2.2.2.1;clear K5 HH2 HL2;clear L1;have T6:=T5;have L6:=L2;have M6:=L3;have HH6:=HH5;have HL6:=HL5;clear T5 L2 L3 HH5 HL5;go_wp2_with fail
  ((with_reducible refine (mZ mo (c+n+1) (m+n) _ T6.out.mt (by omega) (by omega)).mono ?_);rintro e w7 ⟨rfl,hm7,Iu⟩);have T7:=hdz (T6.out.turn hm7 Iu);have L7:=hdz (L6.out.turn Iu);have M7:=hdz (M6.out.turn Iu);have HH7:=hdz (lX HH6.out (Iu.oG T6.out.mt gL));have HL7:=hdz (af (HL6.out.1.kp (Iu.oG T6.out.mt gL)) (HL6.out.2.kp (Iu.oG T6.out.mt gL)));clear hm7 Iu T6 L6 M6 HH6 HL6;have s6:=aC HH7.out (bO.refl _);have c2:=s6.c2;have c3:=s6.c3;have c4:=s6.c4;have c5:=s6.c5;have d0:=L7.out.pair.c0;have d1:=L7.out.pair.c1;have e0:=M7.out.pair.c0;have e1:=M7.out.pair.c1;clear s6;go_wp2_with fail
  go_region_held3 (fun w'=>w'.cell? ⟨r,0,none⟩=some (.int .i64 y1)∧w'.cell? ⟨r,1,none⟩=some (.int .i64 y2)∧w'.cell? ⟨o,0,none⟩=some (.int .i64 x1)∧w'.cell? ⟨o,1,none⟩=some (.int .i64 x2)∧w'.cell? ⟨t,2,none⟩=some (.pointer tbp)∧w'.cell? ⟨t,3,none⟩=some (.int .i64 (ks.len:Int))∧w'.cell? ⟨t,4,none⟩=some (.pointer tkp)∧w'.cell? ⟨t,5,none⟩=some (.int .i64 (bs.length+ks.size:Nat))) (go_keep)
   (first|(go_at_call 158;((with_reducible refine (oV (x1,x2) tbp _).mono ?_);rintro e w8 ⟨nb,rfl,hn8,IB⟩;have T8:=hdz (T7.out.drew.stay IB);have P8:=hdz hn8;have K8:=hdz (bO.trans (Kp.below (Below.refl _ w7).drew) (Kp.below IB));have s6:=aC HH7.out K8.out;have f2:=s6.c2;have f3:=s6.c3;have f4:=s6.c4;have f5:=s6.c5;have h8:=L7.out.drew.stay IB;have j8:=M7.out.drew.stay IB;have f0:=h8.pair.c0;have f1:=h8.pair.c1;have g0:=j8.pair.c0;have g1:=j8.pair.c1;clear IB hn8 s6 h8 j8)))
  clear c2 c3 c4 c5 d0 d1 e0 e1 f0 f1 f2 f3 f4 f5 g0 g1;go_wp2_with fail
  go_ret
  have hs:=HS.out;have e2:IntKind.i64.wrap (((bs.length:Int)+ks.size)+1)=(((x1,x2)::bs).length+ks.size:Nat):=by rw [IntKind.wrap_i64];simp only [List.length_cons];omega
  rw [e2];have hk:=(T8.out.alloc (dK (y1,y2) (some ⟨nb,0,none⟩) (ks.len:Int) tkp (((x1,x2)::bs).length+ks.size:Nat)));have hk8:=K8.out.trans (Kp.below ((Below.refl _ w8).alloc (Nat.le_refl _) (dK (y1,y2) (some ⟨nb,0,none⟩) (ks.len:Int) tkp (((x1,x2)::bs).length+ks.size:Nat))));refine ⟨_,rfl,⟨w8.heap.size,rfl,some ⟨nb,0,none⟩,tkp,aJ rfl,⟨nb,tbp,rfl,?_,HL7.out.1.kp hk8⟩,HL7.out.2.kp hk8⟩,hk.mt,hk.bt⟩;exact (Kp.below ((Below.refl _ w8).alloc (Nat.le_refl _) _)) _ _ _ (.inr (.inl rfl)) P8.out
end Go.Proofs.YtmeodbjlmjpnbaaGreat
namespace Go.Proofs.YtmeodbjlmjpnbaaGreat
open Go.Sort Go.RowKit
def vE:Option ai→Option ai→Nat
 | none,none=>0
 | _,_=>1
theorem wW (mo:Option Nat)(c m:Int)(y:Int×Int)(p q:Option Addr)(ta tb:Option ai)(w:World)(hm:aW w mo c m)(h0:0≤c)(h1:c<1152921504606846976)(h2:0≤m)(h3:m<1152921504606846976)
  (ha:gQ w p ta) (hb:gQ w q tb) (ka:bF ta<268435456) (kb:bF tb<268435456) :
  Calls Tryz.prog 148 #[aF mo,el y,.pointer p,.pointer q] w (bU mo (c+bZ ta tb+vE ta tb) (m+bZ ta tb+1) (AZ y ta tb) w):=by
 cases hl:oI ta tb with
 | none =>
  have hn:ta=none∧tb=none:=by cases ta<;>cases tb<;>simp_all [oI]
  obtain ⟨rfl,rfl⟩:=hn;obtain rfl:=ha;obtain rfl:=hb;have:=vo mo c m y w hm h2 h3;simpa [bZ,vE,AZ,oI] using this
 | some t =>
  have hn:(vE ta tb:Int)=1:=by cases ta<;>cases tb<;>simp_all [oI,vE]
  rw [hn];obtain ⟨⟨x1,x2⟩,bs,ks⟩:=t;obtain ⟨y1,y2⟩:=y;unfold AZ;rw [hl];show Calls Tryz.prog 148 _ w (bU mo _ _ (some (pE (y1,y2) ⟨(x1,x2),bs,ks⟩)) w)
  cases hv:dH (x1,x2) (y1,y2) with
  | true =>
   rw [show pE (y1,y2) ⟨(x1,x2),bs,ks⟩=⟨(x1,x2),(y1,y2)::bs,ks⟩ from by unfold pE;simp only [hv,if_true]];exact vz mo c m y1 y2 p q ta tb x1 x2 bs ks hl w hm h0 h1 h2 h3 ha hb ka kb hv
  | false =>
   rw [show pE (y1,y2) ⟨(x1,x2),bs,ks⟩=⟨(y1,y2),(x1,x2)::bs,ks⟩ from by unfold pE;simp [hv]];exact sD mo c m y1 y2 p q ta tb x1 x2 bs ks hl w hm h0 h1 h2 h3 ha hb ka kb hv
end Go.Proofs.YtmeodbjlmjpnbaaGreat
