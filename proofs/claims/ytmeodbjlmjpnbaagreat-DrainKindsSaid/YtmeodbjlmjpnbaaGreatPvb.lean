/- Contract of a skew binomial heap's Insert: which heap, how many comparisons and trees the meter counts, that what was there stays but for the meter's block. Conditions: fewer than 2 to the 27th elements, counts below 2 to the 59th. -/
import Derived.Test.YtmeodbjlmjpnbaaGreatPva
import Derived.Test.YtmeodbjlmjpnbaaGreatPua
import Derived.Test.YtmeodbjlmjpnbaaGreatPa
import Derived.Deep.LoopGhost
set_option maxRecDepth 100000
set_option maxHeartbeats 4000000
namespace Go.Proofs.YtmeodbjlmjpnbaaGreat.U.Hp
open Go.Sort Go.RowKit Go.Proofs.YtmeodbjlmjpnbaaGreat.U.Gn
structure Fi (W:World) (a:Nat) (p:HP) (x:Thing):Prop where
 h:Box2 W a 257 (.pointer p.q) (.int .i64 p.n)
 r:Box2 W (a + 1) 257 (.pointer none) (.int .i64 0)
 k:KeyC W x
section
variable {W W':World} {a:Nat} {p:HP} {x:Thing} {mo:Option Nat} {c m:Int}
theorem Fi.new (w:World) (p:HP) (x:Thing) (hx:KeyC w x):Fi ((w.alloc (.cells #[.pointer p.q,.int .i64 p.n] 257)).alloc (.cells #[.pointer none,.int .i64 0] 257)) w.heap.size p x:=by
 refine ⟨(Box2.new w 257 _ _).alloc _,?_,hx.stay (new2_below w _ _)⟩;have:=Box2.new (w.alloc (.cells #[.pointer p.q,.int .i64 p.n] 257)) 257 (.pointer none) (.int .i64 0);simpa only [World.size_alloc] using this
theorem Fi.stay (h:Fi W a p x) (hb:Below W.heap.size W W'):Fi W' a p x:=⟨h.h.stay hb,h.r.stay hb,h.k.stay hb⟩
theorem Fi.bt (h:Fi W a p x) (hb:Bt mo W W') (hm:MAt W mo c m):Fi W' a p x:=⟨h.h.bt hb hm (by decide),h.r.bt hb hm (by decide),h.k.kp (Kp.bt hb hm).tree⟩
end
theorem drop2_h {w:World} {f g:Tre} {r:List Tre} {p:HP} (h:LAt w ⟨f :: g :: r⟩ p):Calls Tryz.prog 162 #[hp p,.int .i64 2] w fun e w' => ∃ p':HP,e = .returned (.agg #[.pointer p'.q,.int .i64 p'.n]) ∧ LAt w' ⟨r⟩ p' ∧ Below w.heap.size w w':=drop_h h 2 (by decide)
theorem ins_nil (mo:Option Nat) (c m:Int) (x:Thing) (p:HP) (w:World) (hx:KeyC w x) (hs:bSize ([]:List Tre) < 134217728) (hm:MAt w mo c m) (h0:0 ≤ c) (h1:c < 576460752303423488) (h2:0 ≤ m) (h3:m < 576460752303423487)
  (hh:LAt w ⟨[]⟩ p):Calls Tryz.prog 149 #[hp p,mAddr mo,.pointer (some ⟨x.a,0,none⟩)] w (Gave mo (c + (sInsN ([]:List Tre):Nat)) (m + (sInsM ([]:List Tre):Nat)) ⟨sIns ([]) x⟩ w):=by
 have HF:=hdz (Fi.new w p x hx);have KK:=hdz ((Trk.refl (N:=NodeT) hm).stay (new2_below w (.cells #[.pointer p.q,.int .i64 p.n] 257) (.cells #[.pointer none,.int .i64 0] 257)));have HH:=hdz (show LAt _ ⟨[]⟩ p from hh.stay (new2_below w (.cells #[.pointer p.q,.int .i64 p.n] 257) (.cells #[.pointer none,.int .i64 0] 257)));have HN:=hdz (anz hs (anz h0 (anz h1 (anz h2 h3))));have HO:=hdz (anz (show sOk ([]:List Tre) from hh.right) (sok_ins x (show sOk ([]:List Tre) from hh.right)));clear hh hs h0 h1 h2 h3 hm hx;go_enter Tryz.func149,Tryz.ntmps149
 go_wp2_with fail
 generalize (w.alloc (.cells #[.pointer p.q,.int .i64 p.n] 257)).alloc (.cells #[.pointer none,.int .i64 0] 257) = w1 at *;obtain ⟨a,ha⟩:=exq (w.heap.size);rw [← ha] at HF ⊢;have HA:=hdz ha;clear ha;have HE:=hdz (show sInsN ([]:List Tre) = 0 ∧ sInsM ([]:List Tre) = 1 ∧ sIns [] x = [leafT x] from ⟨rfl,rfl,rfl⟩);((with_reducible refine (first_0 HH.out).mono ?_);rintro e w2 ⟨rfl,hb⟩);have F2:=hdz (HF.out.stay hb);have K2:=hdz (KK.out.stay hb);have L2:=hdz ((show LAt _ ⟨[]⟩ p from HH.out.stay hb));clear hb;have f20:=F2.out.h.c0;have f21:=F2.out.h.c1;go_wp2_with fail
 ((with_reducible refine (restL_h L2.out).mono ?_);rintro e w3 ⟨p3,rfl,ht3,hb⟩);have F3:=hdz (F2.out.stay hb);have K3:=hdz (K2.out.stay hb);have L3:=hdz (anz (show LAt _ ⟨[]⟩ p from L2.out.stay hb) (show LAt _ ⟨[]⟩ p3 from ht3));clear ht3 hb f20 f21;go_wp2_with fail
 ((with_reducible refine (first_0 L3.out.2).mono ?_);rintro e w4 ⟨rfl,hb⟩);have F4:=hdz (F3.out.stay hb);have K4:=hdz (K3.out.stay hb);have L4:=hdz ((show LAt _ ⟨[]⟩ p from L3.out.1.stay hb));clear hb;have f40:=F4.out.h.c0;have f41:=F4.out.h.c1;go_wp2_with fail
 have n1:¬ a = a + 1:=by omega
 have n2:¬ a + 1 = a:=by omega
 go_region_held3 (fun w' => w'.cell? ⟨a,0,none⟩ = some (.pointer p.q) ∧ w'.cell? ⟨a,1,none⟩ = some (.int .i64 p.n)) (go_keep)
  (first | (go_at_call 163;((with_reducible refine (push_h L5.out.1 (show TAt _ p5 (some (leafT x)) from L5.out.2) (by rw [leafT_size];have:=HN.out;(try simp only [bSize] at *);omega) (HE.out.2.2 ▸ HO.out.2)).mono ?_);rintro e w6 ⟨p6,rfl,ht6,hb6⟩;have F6:=hdz (F5.out.stay hb6);have K6:=hdz (K5.out.stay hb6);have L6:=hdz ht6;have kF60:=F6.out.h.c0;have kF61:=F6.out.h.c1;have r6:=F6.out.r.c0;have r7:=F6.out.r.c1;have z6:=F6.out.r.z0;have z7:=F6.out.r.z1;clear ht6 hb6)) | (go_at_call 165;((with_reducible refine (leaf_any mo c m x _ (F4.out.k.stay ((Below.refl _ _).drew)) K4.out.drew.mt (by have:=HN.out;omega) (by have:=HN.out;omega)).mono ?_);rintro e w5 ⟨p5,rfl,ht5,hm5,hb5⟩;have F5:=hdz ((F4.out.stay ((Below.refl _ _).drew)).bt hb5 K4.out.drew.mt);have K5:=hdz (K4.out.drew.turn hm5 hb5 node_ne);have L5:=hdz (anz ((L4.out.stay ((Below.refl _ _).drew)).bt hb5 K4.out.drew.mt) ht5);have kF50:=F5.out.h.c0;have kF51:=F5.out.h.c1;clear ht5 hm5 hb5)))
 go_wp2_with fail
 have s0:=(F6.out.r.set (.pointer p6.q) (.int .i64 p6.n)).c0;have s1:=(F6.out.r.set (.pointer p6.q) (.int .i64 p6.n)).c1;have hk:=K6.out.put2 F6.out.r heapT_ne (by decide) (by have:=HA.out;omega) (.pointer p6.q) (.int .i64 p6.n);have eN:=HE.out.1;have eM:=HE.out.2.1;have eI:=HE.out.2.2;exact bodyPost_ret (v:=hp p6) (by simp [results,Tryz.results149,go_sem,s0,s1]) rfl ⟨p6,rfl,by rw [eI];exact L6.out.set2 F6.out.r heapT_ne _ _,by rw [eN,eM];simpa using hk.mt,hk.bt⟩
theorem ins_one (mo:Option Nat) (c m:Int) (f:Tre) (x:Thing) (p:HP) (w:World) (hx:KeyC w x) (hs:bSize ([f]) < 134217728) (hm:MAt w mo c m) (h0:0 ≤ c) (h1:c < 576460752303423488) (h2:0 ≤ m) (h3:m < 576460752303423487)
  (hh:LAt w ⟨[f]⟩ p):Calls Tryz.prog 149 #[hp p,mAddr mo,.pointer (some ⟨x.a,0,none⟩)] w (Gave mo (c + (sInsN ([f]):Nat)) (m + (sInsM ([f]):Nat)) ⟨sIns ([f]) x⟩ w):=by
 have HF:=hdz (Fi.new w p x hx);have KK:=hdz ((Trk.refl (N:=NodeT) hm).stay (new2_below w (.cells #[.pointer p.q,.int .i64 p.n] 257) (.cells #[.pointer none,.int .i64 0] 257)));have HH:=hdz (show LAt _ ⟨[f]⟩ p from hh.stay (new2_below w (.cells #[.pointer p.q,.int .i64 p.n] 257) (.cells #[.pointer none,.int .i64 0] 257)));have HN:=hdz (anz hs (anz h0 (anz h1 (anz h2 h3))));have HO:=hdz (anz (show sOk ([f]) from hh.right) (sok_ins x (show sOk ([f]) from hh.right)));clear hh hs h0 h1 h2 h3 hm hx;go_enter Tryz.func149,Tryz.ntmps149
 go_wp2_with fail
 generalize (w.alloc (.cells #[.pointer p.q,.int .i64 p.n] 257)).alloc (.cells #[.pointer none,.int .i64 0] 257) = w1 at *;obtain ⟨a,ha⟩:=exq (w.heap.size);rw [← ha] at HF ⊢;have HA:=hdz ha;clear ha;have HE:=hdz (show sInsN [f] = 0 ∧ sInsM [f] = 1 ∧ sIns [f] x = [leafT x,f] from ⟨rfl,rfl,rfl⟩);obtain ⟨fa,hfa,hc⟩:=first_h HH.out;have HC:=hdz hc;have Hfa:=hdz hfa;clear hc hfa;((with_reducible refine HC.out.mono ?_);rintro e w2 ⟨rfl,hb⟩);have F2:=hdz (HF.out.stay hb);have K2:=hdz (KK.out.stay hb);have L2:=hdz (anz (show LAt _ ⟨[f]⟩ p from HH.out.stay hb) (Hfa.out.stay hb));clear hb HC Hfa;have f20:=F2.out.h.c0;have f21:=F2.out.h.c1;go_wp2_with fail
 ((with_reducible refine (restL_h L2.out.1).mono ?_);rintro e w3 ⟨p3,rfl,ht3,hb⟩);have F3:=hdz (F2.out.stay hb);have K3:=hdz (K2.out.stay hb);have L3:=hdz (anz (show LAt _ ⟨[f]⟩ p from L2.out.1.stay hb) (show LAt _ ⟨[]⟩ p3 from ht3));clear ht3 hb f20 f21;go_wp2_with fail
 ((with_reducible refine (first_0 L3.out.2).mono ?_);rintro e w4 ⟨rfl,hb⟩);have F4:=hdz (F3.out.stay hb);have K4:=hdz (K3.out.stay hb);have L4:=hdz ((show LAt _ ⟨[f]⟩ p from L3.out.1.stay hb));clear hb;have f40:=F4.out.h.c0;have f41:=F4.out.h.c1;go_wp2_with fail
 have n1:¬ a = a + 1:=by omega
 have n2:¬ a + 1 = a:=by omega
 go_region_held3 (fun w' => w'.cell? ⟨a,0,none⟩ = some (.pointer p.q) ∧ w'.cell? ⟨a,1,none⟩ = some (.int .i64 p.n)) (go_keep)
  (first | (go_at_call 163;((with_reducible refine (push_h L5.out.1 (show TAt _ p5 (some (leafT x)) from L5.out.2) (by rw [leafT_size];have:=HN.out;(try simp only [bSize] at *);omega) (HE.out.2.2 ▸ HO.out.2)).mono ?_);rintro e w6 ⟨p6,rfl,ht6,hb6⟩;have F6:=hdz (F5.out.stay hb6);have K6:=hdz (K5.out.stay hb6);have L6:=hdz ht6;have kF60:=F6.out.h.c0;have kF61:=F6.out.h.c1;have r6:=F6.out.r.c0;have r7:=F6.out.r.c1;have z6:=F6.out.r.z0;have z7:=F6.out.r.z1;clear ht6 hb6)) | (go_at_call 165;((with_reducible refine (leaf_any mo c m x _ (F4.out.k.stay ((Below.refl _ _).drew)) K4.out.drew.mt (by have:=HN.out;omega) (by have:=HN.out;omega)).mono ?_);rintro e w5 ⟨p5,rfl,ht5,hm5,hb5⟩;have F5:=hdz ((F4.out.stay ((Below.refl _ _).drew)).bt hb5 K4.out.drew.mt);have K5:=hdz (K4.out.drew.turn hm5 hb5 node_ne);have L5:=hdz (anz ((L4.out.stay ((Below.refl _ _).drew)).bt hb5 K4.out.drew.mt) ht5);have kF50:=F5.out.h.c0;have kF51:=F5.out.h.c1;clear ht5 hm5 hb5)))
 go_wp2_with fail
 have s0:=(F6.out.r.set (.pointer p6.q) (.int .i64 p6.n)).c0;have s1:=(F6.out.r.set (.pointer p6.q) (.int .i64 p6.n)).c1;have hk:=K6.out.put2 F6.out.r heapT_ne (by decide) (by have:=HA.out;omega) (.pointer p6.q) (.int .i64 p6.n);have eN:=HE.out.1;have eM:=HE.out.2.1;have eI:=HE.out.2.2;exact bodyPost_ret (v:=hp p6) (by simp [results,Tryz.results149,go_sem,s0,s1]) rfl ⟨p6,rfl,by rw [eI];exact L6.out.set2 F6.out.r heapT_ne _ _,by rw [eN,eM];simpa using hk.mt,hk.bt⟩
theorem ins_ne (mo:Option Nat) (c m:Int) (f g:Tre) (r:List Tre) (hq:f.rank ≠ g.rank) (x:Thing) (p:HP) (w:World) (hx:KeyC w x) (hs:bSize (f :: g :: r) < 134217728) (hm:MAt w mo c m) (h0:0 ≤ c) (h1:c < 576460752303423488) (h2:0 ≤ m) (h3:m < 576460752303423487)
  (hh:LAt w ⟨f :: g :: r⟩ p):Calls Tryz.prog 149 #[hp p,mAddr mo,.pointer (some ⟨x.a,0,none⟩)] w (Gave mo (c + (sInsN (f :: g :: r):Nat)) (m + (sInsM (f :: g :: r):Nat)) ⟨sIns (f :: g :: r) x⟩ w):=by
 have HF:=hdz (Fi.new w p x hx);have KK:=hdz ((Trk.refl (N:=NodeT) hm).stay (new2_below w (.cells #[.pointer p.q,.int .i64 p.n] 257) (.cells #[.pointer none,.int .i64 0] 257)));have HH:=hdz (show LAt _ ⟨f :: g :: r⟩ p from hh.stay (new2_below w (.cells #[.pointer p.q,.int .i64 p.n] 257) (.cells #[.pointer none,.int .i64 0] 257)));have HN:=hdz (anz hs (anz h0 (anz h1 (anz h2 h3))));have HO:=hdz (anz (show sOk (f :: g :: r) from hh.right) (sok_ins x (show sOk (f :: g :: r) from hh.right)));clear hh hs h0 h1 h2 h3 hm hx;go_enter Tryz.func149,Tryz.ntmps149
 go_wp2_with fail
 generalize (w.alloc (.cells #[.pointer p.q,.int .i64 p.n] 257)).alloc (.cells #[.pointer none,.int .i64 0] 257) = w1 at *;obtain ⟨a,ha⟩:=exq (w.heap.size);rw [← ha] at HF ⊢;have HA:=hdz ha;clear ha;have HE:=hdz (show sInsN (f :: g :: r) = 0 ∧ sInsM (f :: g :: r) = 1 ∧ sIns (f :: g :: r) x = leafT x :: f :: g :: r from ⟨by show (if f.rank = g.rank then 2 else 0) = 0;rw [if_neg hq],by show (if f.rank = g.rank then 2 else 1) = 1;rw [if_neg hq],sIns_ne _ hq⟩);obtain ⟨fa,hfa,hc⟩:=first_h HH.out;have HC:=hdz hc;have Hfa:=hdz hfa;clear hc hfa;((with_reducible refine HC.out.mono ?_);rintro e w2 ⟨rfl,hb⟩);have F2:=hdz (HF.out.stay hb);have K2:=hdz (KK.out.stay hb);have L2:=hdz (anz (show LAt _ ⟨f :: g :: r⟩ p from HH.out.stay hb) (Hfa.out.stay hb));clear hb HC Hfa;have f20:=F2.out.h.c0;have f21:=F2.out.h.c1;go_wp2_with fail
 ((with_reducible refine (restL_h L2.out.1).mono ?_);rintro e w3 ⟨p3,rfl,ht3,hb⟩);have F3:=hdz (F2.out.stay hb);have K3:=hdz (K2.out.stay hb);have L3:=hdz (anz (show LAt _ ⟨f :: g :: r⟩ p from L2.out.1.stay hb) (anz (L2.out.2.stay hb) (show LAt _ ⟨g :: r⟩ p3 from ht3)));clear ht3 hb f20 f21;go_wp2_with fail
 obtain ⟨ga,hga,hc⟩:=first_h L3.out.2.2;have HC:=hdz hc;have Hga:=hdz hga;clear hc hga;((with_reducible refine HC.out.mono ?_);rintro e w4 ⟨rfl,hb⟩);have F4:=hdz (F3.out.stay hb);have K4:=hdz (K3.out.stay hb);have L4:=hdz (anz (show LAt _ ⟨f :: g :: r⟩ p from L3.out.1.stay hb) (anz (L3.out.2.1.stay hb) (Hga.out.stay hb)));clear hb HC Hga;have f40:=F4.out.h.c0;have f41:=F4.out.h.c1;obtain ⟨rf,hrf⟩:=exq (f.rank);obtain ⟨rg,hrg⟩:=exq (g.rank);have HR:=hdz (anz hrf hrg);rw [← hrf,← hrg] at hq;clear hrf hrg;go_wp2_with fail
 ((with_reducible refine (rank_at L4.out.2.1 rf HR.out.1).mono ?_);rintro e w5 ⟨rfl,hw⟩);subst hw;go_wp2_with fail
 ((with_reducible refine (rank_at L4.out.2.2 rg HR.out.2).mono ?_);rintro e w5 ⟨rfl,hw⟩);subst hw;have g1:((rf:Int) == (rg:Int)) = false:=by simp;omega
 have g2:¬ (rf:Int) = (rg:Int):=by omega
 clear hq;have L4b:=L4;clear L4;have L4:=hdz L4b.out.1;clear L4b;go_wp2_with fail
 have n1:¬ a = a + 1:=by omega
 have n2:¬ a + 1 = a:=by omega
 go_region_held3 (fun w' => w'.cell? ⟨a,0,none⟩ = some (.pointer p.q) ∧ w'.cell? ⟨a,1,none⟩ = some (.int .i64 p.n)) (go_keep)
  (first | (go_at_call 163;((with_reducible refine (push_h L5.out.1 (show TAt _ p5 (some (leafT x)) from L5.out.2) (by rw [leafT_size];have:=HN.out;(try simp only [bSize] at *);omega) (HE.out.2.2 ▸ HO.out.2)).mono ?_);rintro e w6 ⟨p6,rfl,ht6,hb6⟩;have F6:=hdz (F5.out.stay hb6);have K6:=hdz (K5.out.stay hb6);have L6:=hdz ht6;have kF60:=F6.out.h.c0;have kF61:=F6.out.h.c1;have r6:=F6.out.r.c0;have r7:=F6.out.r.c1;have z6:=F6.out.r.z0;have z7:=F6.out.r.z1;clear ht6 hb6)) | (go_at_call 165;((with_reducible refine (leaf_any mo c m x _ (F4.out.k.stay ((Below.refl _ _).drew)) K4.out.drew.mt (by have:=HN.out;omega) (by have:=HN.out;omega)).mono ?_);rintro e w5 ⟨p5,rfl,ht5,hm5,hb5⟩;have F5:=hdz ((F4.out.stay ((Below.refl _ _).drew)).bt hb5 K4.out.drew.mt);have K5:=hdz (K4.out.drew.turn hm5 hb5 node_ne);have L5:=hdz (anz ((L4.out.stay ((Below.refl _ _).drew)).bt hb5 K4.out.drew.mt) ht5);have kF50:=F5.out.h.c0;have kF51:=F5.out.h.c1;clear ht5 hm5 hb5)))
 go_wp2_with fail
 have s0:=(F6.out.r.set (.pointer p6.q) (.int .i64 p6.n)).c0;have s1:=(F6.out.r.set (.pointer p6.q) (.int .i64 p6.n)).c1;have hk:=K6.out.put2 F6.out.r heapT_ne (by decide) (by have:=HA.out;omega) (.pointer p6.q) (.int .i64 p6.n);have eN:=HE.out.1;have eM:=HE.out.2.1;have eI:=HE.out.2.2;exact bodyPost_ret (v:=hp p6) (by simp [results,Tryz.results149,go_sem,s0,s1]) rfl ⟨p6,rfl,by rw [eI];exact L6.out.set2 F6.out.r heapT_ne _ _,by rw [eN,eM];simpa using hk.mt,hk.bt⟩
theorem ins_eq (mo:Option Nat) (c m:Int) (f g:Tre) (r:List Tre) (hq:f.rank = g.rank) (x:Thing) (p:HP) (w:World) (hx:KeyC w x) (hs:bSize (f :: g :: r) < 134217728) (hm:MAt w mo c m) (h0:0 ≤ c) (h1:c < 576460752303423488) (h2:0 ≤ m) (h3:m < 576460752303423487)
  (hh:LAt w ⟨f :: g :: r⟩ p):Calls Tryz.prog 149 #[hp p,mAddr mo,.pointer (some ⟨x.a,0,none⟩)] w (Gave mo (c + (sInsN (f :: g :: r):Nat)) (m + (sInsM (f :: g :: r):Nat)) ⟨sIns (f :: g :: r) x⟩ w):=by
 have HF:=hdz (Fi.new w p x hx);have KK:=hdz ((Trk.refl (N:=NodeT) hm).stay (new2_below w (.cells #[.pointer p.q,.int .i64 p.n] 257) (.cells #[.pointer none,.int .i64 0] 257)));have HH:=hdz (show LAt _ ⟨f :: g :: r⟩ p from hh.stay (new2_below w (.cells #[.pointer p.q,.int .i64 p.n] 257) (.cells #[.pointer none,.int .i64 0] 257)));have HN:=hdz (anz hs (anz h0 (anz h1 (anz h2 h3))));have HO:=hdz (anz (show sOk (f :: g :: r) from hh.right) (sok_ins x (show sOk (f :: g :: r) from hh.right)));clear hh hs h0 h1 h2 h3 hm hx;go_enter Tryz.func149,Tryz.ntmps149
 go_wp2_with fail
 generalize (w.alloc (.cells #[.pointer p.q,.int .i64 p.n] 257)).alloc (.cells #[.pointer none,.int .i64 0] 257) = w1 at *;obtain ⟨a,ha⟩:=exq (w.heap.size);rw [← ha] at HF ⊢;have HA:=hdz ha;clear ha;have HE:=hdz (show sInsN (f :: g :: r) = 2 ∧ sInsM (f :: g :: r) = 2 ∧ sIns (f :: g :: r) x = skT x f g :: r from ⟨by show (if f.rank = g.rank then 2 else 0) = 2;rw [if_pos hq],by show (if f.rank = g.rank then 2 else 1) = 2;rw [if_pos hq],sIns_eq _ hq⟩);obtain ⟨fa,hfa,hc⟩:=first_h HH.out;have HC:=hdz hc;have Hfa:=hdz hfa;clear hc hfa;((with_reducible refine HC.out.mono ?_);rintro e w2 ⟨rfl,hb⟩);have F2:=hdz (HF.out.stay hb);have K2:=hdz (KK.out.stay hb);have L2:=hdz (anz (show LAt _ ⟨f :: g :: r⟩ p from HH.out.stay hb) (Hfa.out.stay hb));clear hb HC Hfa;have f20:=F2.out.h.c0;have f21:=F2.out.h.c1;go_wp2_with fail
 ((with_reducible refine (restL_h L2.out.1).mono ?_);rintro e w3 ⟨p3,rfl,ht3,hb⟩);have F3:=hdz (F2.out.stay hb);have K3:=hdz (K2.out.stay hb);have L3:=hdz (anz (show LAt _ ⟨f :: g :: r⟩ p from L2.out.1.stay hb) (anz (L2.out.2.stay hb) (show LAt _ ⟨g :: r⟩ p3 from ht3)));clear ht3 hb f20 f21;go_wp2_with fail
 obtain ⟨ga,hga,hc⟩:=first_h L3.out.2.2;have HC:=hdz hc;have Hga:=hdz hga;clear hc hga;((with_reducible refine HC.out.mono ?_);rintro e w4 ⟨rfl,hb⟩);have F4:=hdz (F3.out.stay hb);have K4:=hdz (K3.out.stay hb);have L4:=hdz (anz (show LAt _ ⟨f :: g :: r⟩ p from L3.out.1.stay hb) (anz (L3.out.2.1.stay hb) (Hga.out.stay hb)));clear hb HC Hga;have f40:=F4.out.h.c0;have f41:=F4.out.h.c1;obtain ⟨rf,hrf⟩:=exq (f.rank);obtain ⟨rg,hrg⟩:=exq (g.rank);have HR:=hdz (anz hrf hrg);rw [← hrf,← hrg] at hq;clear hrf hrg;go_wp2_with fail
 ((with_reducible refine (rank_at L4.out.2.1 rf HR.out.1).mono ?_);rintro e w5 ⟨rfl,hw⟩);subst hw;go_wp2_with fail
 ((with_reducible refine (rank_at L4.out.2.2 rg HR.out.2).mono ?_);rintro e w5 ⟨rfl,hw⟩);subst hw;have g1:((rf:Int) == (rg:Int)) = true:=by simp;omega
 have g2:(rf:Int) = (rg:Int):=by omega
 clear hq;go_wp2_with fail
 ((with_reducible refine (drop2_h L4.out.1).mono ?_);rintro e w6 ⟨p8,rfl,ht6,hb6⟩);have hb7:Below w5.heap.size w5 (w6.alloc (.cells #[.pointer p8.q,.int .i64 p8.n] 255)):=hb6.alloc hb6.size (.cells #[.pointer p8.q,.int .i64 p8.n] 255);have bV:=Box2.new w6 255 (.pointer p8.q) (.int .i64 p8.n);have F7:=hdz (F4.out.stay hb7);have K7:=hdz (K4.out.stay hb7);have L7:=hdz (anz (show LAt (w6.alloc (.cells #[.pointer p8.q,.int .i64 p8.n] 255)) ⟨r⟩ p8 from LAt.stay (show LAt w6 ⟨r⟩ p8 from ht6) (bqA _)) (anz (L4.out.2.1.stay hb7) (L4.out.2.2.stay hb7)));have HVL:=hdz (Nat.lt_of_lt_of_le F4.out.r.lt hb6.size);clear ht6 hb6 hb7 f40 f41 F4 K4 L4;have V7:=hdz bV;clear bV;go_wp2_with fail
 generalize w6.alloc (.cells #[.pointer p8.q,.int .i64 p8.n] 255) = w7 at *;obtain ⟨v,hv⟩:=exq (w6.heap.size);rw [← hv] at V7 HVL ⊢;clear hv;have v0:=V7.out.c0;have v1:=V7.out.c1;have n1:¬ v = a + 1:=by have:=HVL.out;omega
 have n2:¬ a + 1 = v:=by have:=HVL.out;omega
 go_region_held3 (fun w' => w'.cell? ⟨v,0,none⟩ = some (.pointer p8.q) ∧ w'.cell? ⟨v,1,none⟩ = some (.int .i64 p8.n)) (go_keep)
  (first | (go_at_call 163;((with_reducible refine (push_h L8.out.1 L8.out.2 (by rw [skT_size];have:=HN.out;(try simp only [bSize] at *);omega) (HE.out.2.2 ▸ HO.out.2)).mono ?_);rintro e w9 ⟨p6,rfl,ht6,hb6⟩;have F9:=hdz (F8.out.stay hb6);have V9:=hdz (V8.out.stay hb6);have K9:=hdz (K8.out.stay hb6);have L9:=hdz ht6;have kV90:=V9.out.c0;have kV91:=V9.out.c1;have r6:=F9.out.r.c0;have r7:=F9.out.r.c1;have z6:=F9.out.r.z0;have z7:=F9.out.r.z1;clear ht6 hb6)) | (go_at_call 164;((with_reducible refine (skew_any mo c m x fa ga (some f) (some g) _ (F7.out.k.stay ((Below.refl _ _).drew)) K7.out.drew.mt HN.out.2.1 (by have:=HN.out;omega) HN.out.2.2.2.1 (by have:=HN.out;omega) (L7.out.2.1.stay ((Below.refl _ _).drew)) (L7.out.2.2.stay ((Below.refl _ _).drew)) (by have:=HN.out;simp only [osize,bSize] at *;omega) (by have:=HN.out;simp only [osize,bSize] at *;omega)).mono ?_);rintro e w8 ⟨p5,rfl,ht5,hm5,hb5⟩;have F8:=hdz ((F7.out.stay ((Below.refl _ _).drew)).bt hb5 K7.out.drew.mt);have V8:=hdz ((V7.out.stay ((Below.refl _ _).drew)).bt hb5 K7.out.drew.mt (by decide));have K8:=hdz (K7.out.drew.turn hm5 hb5 node_ne);have L8:=hdz (anz ((L7.out.1.stay ((Below.refl _ _).drew)).bt hb5 K7.out.drew.mt) (show TAt _ p5 (some (skT x f g)) from ht5));have kV80:=V8.out.c0;have kV81:=V8.out.c1;clear ht5 hm5 hb5)))
 go_wp2_with fail
 have s0:=(F9.out.r.set (.pointer p6.q) (.int .i64 p6.n)).c0;have s1:=(F9.out.r.set (.pointer p6.q) (.int .i64 p6.n)).c1;have hk:=K9.out.put2 F9.out.r heapT_ne (by decide) (by have:=HA.out;omega) (.pointer p6.q) (.int .i64 p6.n);have eN:=HE.out.1;have eM:=HE.out.2.1;have eI:=HE.out.2.2;have hmt:=hk.mt;rw [show c + (lnkN (some f) (some g):Nat) + (skwN (some f) (some g):Nat) = c + ((2:Nat):Int) from by simp only [lnkN,skwN];omega,show m + (lnkN (some f) (some g):Nat) + 1 = m + ((2:Nat):Int) from by simp only [lnkN];omega] at hmt;exact bodyPost_ret (v:=hp p6) (by simp [results,Tryz.results149,go_sem,s0,s1]) rfl ⟨p6,rfl,by rw [eI];exact L9.out.set2 F9.out.r heapT_ne _ _,by rw [eN,eM];exact hmt,hk.bt⟩
theorem insert_any (mo:Option Nat) (c m:Int) (h:Lh) (x:Thing) (p:HP) (w:World) (hx:KeyC w x) (hs:h.size < 134217728) (hm:MAt w mo c m) (h0:0 ≤ c) (h1:c < 576460752303423488) (h2:0 ≤ m) (h3:m < 576460752303423487)
  (hh:LAt w h p):Calls Tryz.prog 149 #[hp p,mAddr mo,hv x] w (Gave mo (c + h.insC) (m + h.insM) (h.insert x) w):=by
 obtain ⟨l⟩:=h;match l,hs,hh with
 | [],hs,hh => exact ins_nil mo c m x p w hx hs hm h0 h1 h2 h3 hh
 | [f],hs,hh => exact ins_one mo c m f x p w hx hs hm h0 h1 h2 h3 hh
 | f :: g :: r,hs,hh =>
  by_cases hq:f.rank = g.rank
  ·exact ins_eq mo c m f g r hq x p w hx hs hm h0 h1 h2 h3 hh
  ·exact ins_ne mo c m f g r hq x p w hx hs hm h0 h1 h2 h3 hh
end Go.Proofs.YtmeodbjlmjpnbaaGreat.U.Hp
namespace Go.Proofs.YtmeodbjlmjpnbaaGreat.U.Hp
open Go.Sort Go.RowKit Go.Proofs.YtmeodbjlmjpnbaaGreat.U.Gn
section
variable {W W':World} {b:Nat} {t:TypeId} {v:Value} {mo:Option Nat} {c m:Int}
theorem BAt.keys:∀ {xs:List Thing} {p:Option Addr},BAt W xs p → ∀ x ∈ xs,KeyC W x
 | [],_,_,_,h => by cases h
 | y :: ys,_,⟨_,_,_,_,hy,hr⟩,x,h => by
  rcases List.mem_cons.1 h with rfl | h
  ·exact hy
  ·exact BAt.keys hr x h
theorem beside_keys {p:Option Addr} {t:Tre} (h:TAt W p (some t)):∀ x ∈ t.bs,KeyC W x:=by
 obtain ⟨b,rfl,bp,kp, -, -,hb, -⟩:=h;exact BAt.keys hb
end
abbrev puts (h:Lh) (xs:List Thing):Lh:=xs.foldl Lh.insert h
theorem puts_size:∀ (xs:List Thing) (h:Lh),(puts h xs).size = h.size + xs.length
 | [],_ => rfl
 | x :: r,h => by
  show (puts (h.insert x) r).size = _;rw [puts_size r (h.insert x),insert_size,List.length_cons];omega
theorem putC_take (h:Lh) (xs:List Thing) (k:Nat) (hk:k < xs.length):putC h (xs.take (k + 1)) = putC h (xs.take k) + (puts h (xs.take k)).insC ∧ putM h (xs.take (k + 1)) = putM h (xs.take k) + (puts h (xs.take k)).insM:=by
 rw [List.take_succ_eq_append_getElem hk];exact ⟨putC_snoc _ _ _,putM_snoc _ _ _⟩
theorem puts_take (h:Lh) (xs:List Thing) (k:Nat) (hk:k < xs.length):puts h (xs.take (k + 1)) = (puts h (xs.take k)).insert xs[k]:=by
 rw [List.take_succ_eq_append_getElem hk,puts,List.foldl_append];rfl
theorem with_any (mo:Option Nat) (c m:Int) (h:Lh) (p0:HP) (A:Option Addr) (xs:List Thing) (cap:Nat) (w:World) (hm:MAt w mo c m) (h0:0 ≤ c) (h1:c < 288230376151711744) (h2:0 ≤ m) (h3:m < 288230376151711744) (hr:Row1 one0 w A xs) (hkx:∀ x ∈ xs,KeyC w x) (hn:h.size + xs.length < 134217728)
  (hne:0 < xs.length → ∀ b,mo = some b → ∀ q,A = some q → q.block ≠ b) (hh:LAt w h p0) :
  Calls Tryz.prog 340 #[hp p0,mAddr mo,.slice A xs.length cap] w (Gave mo (c + putC h xs) (m + putM h xs) (puts h xs) w):=by
 have HF:=hdz (F2.new w p0);have KK:=hdz ((Trk.refl (N:=NodeT) hm).stay (new2_below w (.cells #[.pointer p0.q,.int .i64 p0.n] 257) (.cells #[.pointer none,.int .i64 0] 257)));have HL:=hdz (hh.stay (new2_below w (.cells #[.pointer p0.q,.int .i64 p0.n] 257) (.cells #[.pointer none,.int .i64 0] 257)));have HR:=hdz (anz hr hne);have HKX:=hdz hkx;have HN:=hdz (anz h0 (anz h1 (anz h2 h3)));obtain ⟨n,hnn⟩:=exq (xs.length);rw [← hnn] at hn ⊢;have HX:=hdz (anz hnn hn);clear hr hne hkx h0 h1 h2 h3 hm hnn hn hh;go_enter Tryz.func340,Tryz.ntmps340
 go_wp2_with fail
 generalize (w.alloc (.cells #[.pointer p0.q,.int .i64 p0.n] 257)).alloc (.cells #[.pointer none,.int .i64 0] 257) = w1 at *;obtain ⟨a,ha⟩:=exq (w.heap.size);rw [← ha] at HF ⊢;have HA:=hdz ha;clear ha;go_loopg [11] n (fun k i wr => ∃ (j:Nat) (p:HP),i = .int .i64 (j:Int) ∧ j + k = n ∧ Box2 wr a 257 (.pointer p.q) (.int .i64 p.n) ∧ Box2 wr (a + 1) 257 (.pointer none) (.int .i64 0) ∧ LAt wr (puts h (xs.take j)) p ∧ Trk NodeT mo w (c + putC h (xs.take j)) (m + putM h (xs.take j)) wr)
 case atStart => exact ⟨0,p0,rfl,by omega,HF.out.h,HF.out.r,HL.out,by simpa [putC,putM] using KK.out⟩
 case round =>
  obtain ⟨j,p,rfl,hj,hra,hrb,ht,hk⟩:=hrel;by_cases hlt:j < n
  ·have hjx:j < xs.length:=by rw [← HX.out.1];exact hlt
   obtain ⟨b,o,rfl,hc⟩:=HR.out.1 (by omega);have hx:=hc j hjx;have hne:=fun bb (eb:mo = some bb) => HR.out.2 (by omega) bb eb _ rfl;have x0:wr.cell? ⟨b,o + j,none⟩ = some (.pointer (some ⟨xs[j].a,0,none⟩)):=hk.bt.cell hx hne;have hkj:KeyC wr xs[j]:=(HKX.out _ (List.getElem_mem hjx)).kp (Kp.tree hk.kp);have hpl:=put_le (xs.take j) h;have htl:(xs.take j).length = j:=by rw [List.length_take];omega
   rw [htl] at hpl;have hsz:(puts h (xs.take j)).size = h.size + j:=by rw [puts_size,htl]
   have eP:=putC_take h xs j hjx;have eO:=puts_take h xs j hjx;generalize xs[j] = x at *;have HKJ:=hdz hkj;have q1:(j:Int) < (n:Int):=by omega
   have q2:(0:Int) ≤ (j:Int):=by omega
   have h1c:=hra.c0;have h1d:=hra.c1;have X:=hdz (anz hra (anz hrb (anz ht (anz hk (anz eP (anz eO (anz hpl (anz hsz hj))))))));clear hra hrb ht hk eP eO hpl htl hsz hj hc hx hne hjx hkj;go_wp2_with fail
   clear h1c h1d x0;((with_reducible refine (insert_any mo _ _ (puts h (xs.take j)) x p _ HKJ.out (by rw [X.out.2.2.2.2.2.2.2.1];have:=HX.out;omega) X.out.2.2.2.1.mt (by have:=HN.out;omega) (by have:=HN.out;have:=X.out.2.2.2.2.2.2.1;have:=HX.out;omega) (by have:=HN.out;omega) (by have:=HN.out;have:=X.out.2.2.2.2.2.2.1;have:=HX.out;omega) X.out.2.2.1).mono ?_);rintro e w2 ⟨p2,rfl,ht2,hm2,hb2⟩);obtain ⟨hra,hrb,ht,hk,eP,eO,hpl,hsz,hj⟩:=X.out;have hk2:=hk.turn hm2 hb2 node_ne;have ra2:=hra.bt hb2 hk.mt (by decide);have rb2:=hrb.bt hb2 hk.mt (by decide);have e1:c + ((putC h (xs.take (j + 1)):Nat):Int) = c + (putC h (xs.take j):Nat) + ((puts h (xs.take j)).insC:Nat):=by rw [eP.1];omega
   have e2:m + ((putM h (xs.take (j + 1)):Nat):Int) = m + (putM h (xs.take j):Nat) + ((puts h (xs.take j)).insM:Nat):=by rw [eP.2];omega
   rw [← e1,← e2] at hk2;rw [← eO] at ht2;have z2:=ra2.z0;have z3:=ra2.z1;have r2:=ra2.c0;have r3:=ra2.c1;have Y:=hdz (anz (ra2.set (.pointer p2.q) (.int .i64 p2.n)) (anz (rb2.aside (g:=a) (by omega) (.pointer p2.q) (.int .i64 p2.n)) (anz (ht2.set2 ra2 heapT_ne (.pointer p2.q) (.int .i64 p2.n)) (hk2.put2 ra2 heapT_ne (by decide) (by rw [← HA.out];omega) (.pointer p2.q) (.int .i64 p2.n)))));clear hra hrb ht hk eP eO hpl hsz hk2 ra2 rb2 e1 e2 ht2 hm2 hb2 X;go_wp2_with fail
   go_roundg (n - 1 - j)
   case measure => omega
   case rel => exact ⟨j + 1,p2,by have h5:=HX.out;congr 1;unfold wrap64;omega,by omega,Y.out.1,Y.out.2.1,Y.out.2.2.1,Y.out.2.2.2⟩
  ·have hjn:j = n:=by omega
   subst hjn;rw [HX.out.1,List.take_length] at ht hk;have h1c:=hra.c0;have h1d:=hra.c1;have r6:=hrb.c0;have r7:=hrb.c1;have z6:=hrb.z0;have z7:=hrb.z1;have s0:=(hrb.set (.pointer p.q) (.int .i64 p.n)).c0;have s1:=(hrb.set (.pointer p.q) (.int .i64 p.n)).c1;have hk2:=hk.put2 hrb heapT_ne (by decide) (by rw [← HA.out];omega) (.pointer p.q) (.int .i64 p.n);have X:=hdz (anz (ht.set2 hrb heapT_ne (.pointer p.q) (.int .i64 p.n)) hk2);clear hra hrb ht hk hk2 hlt hj;go_wp2_with fail
   exact bodyPost_ret (v:=hp p) (by simp [results,Tryz.results340,go_sem,s0,s1]) rfl ⟨p,rfl,X.out.1,X.out.2.mt,X.out.2.bt⟩
end Go.Proofs.YtmeodbjlmjpnbaaGreat.U.Hp
namespace Go.Proofs.YtmeodbjlmjpnbaaGreat.U.Hp
open Go.Sort Go.RowKit Go.Proofs.YtmeodbjlmjpnbaaGreat.U.Gn
theorem tat_none {w:World}:TAt w none none:=rfl
def minV (t:Lh):Value:=match t.ts with
 | [] => .tuple #[.pointer none,.bool false]
 | _ :: _ => .tuple #[hv t.min.1,.bool true]
theorem drop_least {t:Tre} {r:List Tre}:∃ u us,(t :: r).drop (leastI (t :: r)) = u :: us ∧ u.x = rootAt (t :: r) (leastI (t :: r)) ∧ (kidsAt (t :: r) (leastI (t :: r)) = u.ks.list.reverse ∧ besAt (t :: r) (leastI (t :: r)) = u.bs) ∧ (t :: r).drop (leastI (t :: r) + 1) = us ∧ u ∈ t :: r:=by
 have hl:=leastI_lt (l:=t :: r) (by simp);have hg:(t :: r)[leastI (t :: r)]? = some (t :: r)[leastI (t :: r)]:=List.getElem?_eq_getElem hl;refine ⟨(t :: r)[leastI (t :: r)],(t :: r).drop (leastI (t :: r) + 1),List.drop_eq_getElem_cons hl,?_,?_,rfl,List.getElem_mem hl⟩
 ·unfold rootAt;rw [hg]
 ·exact ⟨by unfold kidsAt;rw [hg],by unfold besAt;rw [hg]⟩
theorem bSize_reverse (l:List Tre):bSize l.reverse = bSize l:=by
 induction l with
 | nil => rfl
 | cons t r ih => rw [List.reverse_cons,bSize_app,ih];simp [bSize];omega
theorem bSize_list:∀ ks:Wood,bSize ks.list = ks.size
 | .nil => rfl
 | .cons x bs ks r => by simp only [Gn.Wood.list,bSize,Gn.Wood.size,bSize_list r,Gn.Tre.size]
theorem size_in {l:List Tre} {t:Tre} (ht:t ∈ l):t.size ≤ bSize l:=bSize_mem ht
theorem rest_size {l:List Tre} {i:Nat} (h:i < l.length):bSize (restAt l i) ≤ bSize l:=by
 have h1:=(restAt_all h).length_eq;rw [bAll_length,List.length_append,bAll_length] at h1;omega
theorem pop_parts {l:List Tre} {i:Nat} (h:i < l.length):bSize (kidsAt l i) + bSize (restAt l i) + (besAt l i).length < bSize l:=by
 have hbs:besAt l i = (l[i]).bs:=by unfold besAt;rw [List.getElem?_eq_getElem h]
 have h1:=(restAt_all h).length_eq;have hg:l[i]? = some l[i]:=List.getElem?_eq_getElem h;have hk:kidsAt l i = (l[i]).ks.list.reverse:=by unfold kidsAt;rw [hg]
 rw [bAll_length,List.length_append,bAll_length,Gn.Tre.all_length] at h1;rw [hk,hbs,bSize_reverse,bSize_list];have h9:(l[i]).size = 1 + (l[i]).bs.length + (l[i]).ks.size:=rfl;omega
theorem rest_ok {l:List Tre} (h:sOk l) (i:Nat):sOk (restAt l i):=⟨fun u hu => h.hok u (restAt_mem hu),fun u hu => h.sk u (restAt_mem hu),restAt_up h.up⟩
theorem kids_ok {u:Tre} (h1:u.hok) (h2:u.sk):sOk u.ks.list.reverse:=⟨fun v hv => Gn.Wood.list_hok h1.2 v (by simpa using hv),fun v hv => (Gn.Wood.list_sk h2.2 v (by simpa using hv)).1,upto_of (Gn.Wood.list_srise h2.2)⟩
theorem lev_rises:∀ {l:List Tre},rises l → levT l = l ∧ levN l = 0
 | [],_ => ⟨rfl,rfl⟩
 | [t],_ => ⟨rfl,rfl⟩
 | t :: u :: r,h => by
  have h1:=(List.pairwise_cons.1 h).1 u (List.mem_cons_self ..);exact ⟨by show putT (u :: r) t = _;rw [putT,if_pos h1],by show putTN (u :: r) t = 0;rw [putTN,if_pos h1]⟩
theorem base_meld {l:List Tre} {k:Nat} (h:rises (kidsAt l k)):meld ⟨kidsAt l k⟩ ⟨restAt l k⟩ = ⟨sBase l k⟩ ∧ meldN ⟨kidsAt l k⟩ ⟨restAt l k⟩ = sBaseN l k:=by
 obtain ⟨h1,h2⟩:=lev_rises h;refine ⟨?_,?_⟩
 ·show Lh.mk (bmeld (levT (kidsAt l k)) (levT (restAt l k))) = _;rw [h1];rfl
 ·show levN (kidsAt l k) + levN (restAt l k) + bmeldN (levT (kidsAt l k)) (levT (restAt l k)) = _;rw [h1,h2,Nat.zero_add];rfl
theorem base_size (l:List Tre) (k:Nat):bSize (sBase l k) = bSize (kidsAt l k) + bSize (restAt l k):=by unfold sBase;rw [bmeld_size,levT_size]
theorem putC_ts:∀ (xs:List Thing) (l:List Tre),putC ⟨l⟩ xs = sPutN l xs ∧ putM ⟨l⟩ xs = sPutM l xs
 | [],_ => ⟨rfl,rfl⟩
 | x :: r,l => by
  obtain ⟨h1,h2⟩:=putC_ts r (sIns l x);exact ⟨by show sInsN l + putC ⟨sIns l x⟩ r = _;rw [h1];rfl,by show sInsM l + putM ⟨sIns l x⟩ r = _;rw [h2];rfl⟩
theorem pop_puts (t:Tre) (r:List Tre) (k:Nat) (hk:k = leastI (t :: r)):(Lh.mk (t :: r)).pop = puts ⟨sBase (t :: r) k⟩ (besAt (t :: r) k):=by
 subst hk;have h:=fold_ts (besAt (t :: r) (leastI (t :: r))) ⟨sBase (t :: r) (leastI (t :: r))⟩;exact congrArg Lh.mk h.symm
theorem popC_puts (t:Tre) (r:List Tre) (k:Nat) (hk:k = leastI (t :: r)):(Lh.mk (t :: r)).popC = sBaseN (t :: r) k + putC ⟨sBase (t :: r) k⟩ (besAt (t :: r) k):=by subst hk;rw [(putC_ts _ _).1];rfl
theorem popM_puts (t:Tre) (r:List Tre) (k:Nat) (hk:k = leastI (t :: r)):(Lh.mk (t :: r)).popM = sBaseN (t :: r) k + putM ⟨sBase (t :: r) k⟩ (besAt (t :: r) k):=by subst hk;rw [(putC_ts _ _).2];rfl
theorem min_none (mo:Option Nat) (c m:Int) (p:HP) (w:World) (hm:MAt w mo c m) (h0:0 ≤ c) (h1:c < 1152921504606846976) (h:LAt w .nil p):Calls Tryz.prog 331 #[hp p,mAddr mo] w fun e w' => e = .returned (minV .nil) ∧ MAt w' mo (c + Lh.nil.tellN) m ∧ Bt mo w w':=by
 have hb1:Below w.heap.size w (w.alloc (.cells #[.pointer p.q,.int .i64 p.n] 257)):=(Below.refl _ w).alloc (Nat.le_refl _) _;have bH:=Box2.new w 257 (.pointer p.q) (.int .i64 p.n);have HL:=hdz (show LAt _ ⟨[]⟩ p from h.stay hb1);have KK:=hdz ((Trk.refl (N:=NodeT) hm).stay hb1);have HB:=hdz bH;have HN:=hdz (anz h0 h1);obtain ⟨k,hk⟩:∃ k,k = leastI ([]:List Tre):=⟨_,rfl⟩;have HK:=hdz (show k = leastI ([]:List Tre) ∧ k < 2147483648 ∧ ([]:List Tre).drop k = [] from ⟨hk,by rw [hk];decide,by simp⟩);clear h hm hb1 bH h0 h1 hk;go_enter Tryz.func331,Tryz.ntmps331
 go_wp2_with fail
 generalize w.alloc (.cells #[.pointer p.q,.int .i64 p.n] 257) = w1 at *;obtain ⟨a,ha⟩:=exq (w.heap.size);rw [← ha] at HB ⊢;have HA:=hdz (Nat.le_of_eq ha.symm);clear ha;have f0:=HB.out.c0;have f1:=HB.out.c1;have hfd:=field_h
 go_region_held3 (fun w' => w'.cell? ⟨a,0,none⟩ = some (.pointer p.q) ∧ w'.cell? ⟨a,1,none⟩ = some (.int .i64 p.n)) (go_keep)
  (first | (go_at_call 159;((with_reducible refine (first_0 L3.out).mono ?_);rintro e w4 ⟨rfl,hb4⟩;have K4:=hdz (K3.out.stay hb4);have B4:=hdz (B3.out.stay hb4);have f40:=B4.out.c0;have f41:=B4.out.c1;clear hb4)) | (go_at_call 162;((with_reducible refine (drop_h L2.out k HK.out.2.1).mono ?_);rintro e w3 ⟨p3,rfl,ht3,hb3⟩;have K3:=hdz (K2.out.stay hb3);have L3:=hdz (show LAt w3 ⟨[]⟩ p3 from HK.out.2.2 ▸ ht3);have B3:=hdz (B2.out.stay hb3);have f30:=B3.out.c0;have f31:=B3.out.c1;clear ht3 hb3)) | (go_at_call 336;((with_reducible refine (place_any mo c m ⟨[]⟩ p _ KK.out.drew.mt HN.out.1 HN.out.2 (HL.out.stay ((Below.refl _ _).drew))).mono ?_);rintro e w2 ⟨rfl,hm2,hb2⟩;rw [show leastI (Lh.mk ([])).ts = k from HK.out.1.symm];have K2:=hdz (KK.out.drew.turn hm2 hb2 node_ne);have L2:=hdz ((HL.out.stay ((Below.refl _ _).drew)).bt hb2 KK.out.drew.mt);have B2:=hdz ((HB.out.stay ((Below.refl _ _).drew)).bt hb2 KK.out.drew.mt (by decide));have f20:=B2.out.c0;have f21:=B2.out.c1;clear hm2 hb2)))
 go_wp2_with fail
 ((with_reducible refine (root_any none none _ tat_none).mono ?_);rintro e w5 ⟨rfl,hb5⟩);rw [show rootV none = .tuple #[.pointer none,.bool false] from rfl];have hk:=K4.out.stay hb5;clear hb5;go_wp2_with fail
 exact bodyPost_ret (v:=minV .nil) (by simp [results,Tryz.results331,go_sem,minV,Lh.nil]) rfl ⟨rfl,hk.mt,hk.bt⟩
theorem min_some_any (mo:Option Nat) (c m:Int) (t:Tre) (r:List Tre) (p:HP) (w:World) (hm:MAt w mo c m) (h0:0 ≤ c) (h1:c < 1152921504606846976) (h:LAt w ⟨t :: r⟩ p):Calls Tryz.prog 331 #[hp p,mAddr mo] w fun e w' => e = .returned (minV ⟨t :: r⟩) ∧ MAt w' mo (c + (Lh.mk (t :: r)).tellN) m ∧ Bt mo w w':=by
 have hb1:Below w.heap.size w (w.alloc (.cells #[.pointer p.q,.int .i64 p.n] 257)):=(Below.refl _ w).alloc (Nat.le_refl _) _;have bH:=Box2.new w 257 (.pointer p.q) (.int .i64 p.n);have HL:=hdz (show LAt _ ⟨t :: r⟩ p from h.stay hb1);have KK:=hdz ((Trk.refl (N:=NodeT) hm).stay hb1);have HB:=hdz bH;have HN:=hdz (anz h0 h1);obtain ⟨k,hk⟩:∃ k,k = leastI (t :: r):=⟨_,rfl⟩;obtain ⟨u,us,hu1,hu2, -, -, -⟩:=drop_least (t:=t) (r:=r);have hlen:=h.len;have hlt:=leastI_lt (l:=t :: r) (by simp);change (t :: r).length < _ at hlen;have HK:=hdz (show k = leastI (t :: r) ∧ k < 2147483648 ∧ (t :: r).drop k = u :: us ∧ minV ⟨t :: r⟩ = .tuple #[hv u.x,.bool true] from ⟨hk,by omega,by rw [hk];exact hu1,by rw [hu2];rfl⟩);clear hu1 hu2 hlen hlt;clear h hm hb1 bH h0 h1 hk;go_enter Tryz.func331,Tryz.ntmps331
 go_wp2_with fail
 generalize w.alloc (.cells #[.pointer p.q,.int .i64 p.n] 257) = w1 at *;obtain ⟨a,ha⟩:=exq (w.heap.size);rw [← ha] at HB ⊢;have HA:=hdz (Nat.le_of_eq ha.symm);clear ha;have f0:=HB.out.c0;have f1:=HB.out.c1;have hfd:=field_h
 go_region_held3 (fun w' => w'.cell? ⟨a,0,none⟩ = some (.pointer p.q) ∧ w'.cell? ⟨a,1,none⟩ = some (.int .i64 p.n)) (go_keep)
  (first | (go_at_call 159;(obtain ⟨fa,hfa,hc⟩:=first_h L3.out);((with_reducible refine hc.mono ?_);rintro e w4 ⟨rfl,hb4⟩;have K4:=hdz (K3.out.stay hb4);have T4:=hdz (hfa.stay hb4);have B4:=hdz (B3.out.stay hb4);have f40:=B4.out.c0;have f41:=B4.out.c1;clear hb4 hfa hc)) | (go_at_call 162;((with_reducible refine (drop_h L2.out k HK.out.2.1).mono ?_);rintro e w3 ⟨p3,rfl,ht3,hb3⟩;have K3:=hdz (K2.out.stay hb3);have L3:=hdz (show LAt w3 ⟨u :: us⟩ p3 from HK.out.2.2.1 ▸ ht3);have B3:=hdz (B2.out.stay hb3);have f30:=B3.out.c0;have f31:=B3.out.c1;clear ht3 hb3)) | (go_at_call 336;((with_reducible refine (place_any mo c m ⟨t :: r⟩ p _ KK.out.drew.mt HN.out.1 HN.out.2 (HL.out.stay ((Below.refl _ _).drew))).mono ?_);rintro e w2 ⟨rfl,hm2,hb2⟩;rw [show leastI (Lh.mk (t :: r)).ts = k from HK.out.1.symm];have K2:=hdz (KK.out.drew.turn hm2 hb2 node_ne);have L2:=hdz ((HL.out.stay ((Below.refl _ _).drew)).bt hb2 KK.out.drew.mt);have B2:=hdz ((HB.out.stay ((Below.refl _ _).drew)).bt hb2 KK.out.drew.mt (by decide));have f20:=B2.out.c0;have f21:=B2.out.c1;clear hm2 hb2)))
 go_wp2_with fail
 ((with_reducible refine (root_any fa (some u) _ T4.out).mono ?_);rintro e w5 ⟨rfl,hb5⟩);obtain ⟨y,ubs,uks⟩:=u;rw [show rootV (some ⟨y,ubs,uks⟩) = .tuple #[hv y,.bool true] from rfl];have hk:=K4.out.stay hb5;clear hb5;go_wp2_with fail
 exact bodyPost_ret (v := .tuple #[hv y,.bool true]) (by simp [results,Tryz.results331,go_sem]) rfl ⟨by rw [HK.out.2.2.2],hk.mt,hk.bt⟩
theorem min_any (mo:Option Nat) (c m:Int) (t:Lh) (p:HP) (w:World) (hm:MAt w mo c m) (h0:0 ≤ c) (h1:c < 1152921504606846976) (h:LAt w t p):Calls Tryz.prog 331 #[hp p,mAddr mo] w fun e w' => e = .returned (minV t) ∧ MAt w' mo (c + t.tellN) m ∧ Bt mo w w':=by
 obtain ⟨ts⟩:=t
 cases ts with
 | nil => exact min_none mo c m p w hm h0 h1 h
 | cons t r => exact min_some_any mo c m t r p w hm h0 h1 h
def Popped (mo:Option Nat) (c m:Int) (t:Lh) (is:Bool) (w:World) (e:Ending) (w':World):Prop:=∃ p:HP,e = .returned (.tuple #[.agg #[.pointer p.q,.int .i64 p.n],.bool is]) ∧ LAt w' t p ∧ MAt w' mo c m ∧ Bt mo w w'
theorem pop_none (mo:Option Nat) (c m:Int) (p:HP) (w:World) (hm:MAt w mo c m) (h0:0 ≤ c) (h1:c < 144115188075855872) (h2:0 ≤ m) (h3:m < 144115188075855872) (h:LAt w .nil p):Calls Tryz.prog 332 #[hp p,mAddr mo] w (Popped mo c m .nil false w):=by
 have hb1:Below w.heap.size w ((w.alloc (.cells #[.pointer p.q,.int .i64 p.n] 257)).alloc (.cells #[.pointer none,.int .i64 0] 257)):=((Below.refl _ w).alloc (Nat.le_refl _) _).alloc (by simp) _;have bH:=(Box2.new w 257 (.pointer p.q) (.int .i64 p.n)).alloc (.cells #[.pointer none,.int .i64 0] 257);have bE:=Box2.new (w.alloc (.cells #[.pointer p.q,.int .i64 p.n] 257)) 257 (.pointer none) (.int .i64 0);simp only [World.size_alloc] at bE;have HL:=hdz (show LAt _ ⟨[]⟩ p from h.stay hb1);have KK:=hdz ((Trk.refl (N:=NodeT) hm).stay hb1);have HB:=hdz (anz bH bE);have HN:=hdz (anz h0 (anz h1 (anz h2 h3)));obtain ⟨k,hk⟩:∃ k,k = leastI ([]:List Tre):=⟨_,rfl⟩;have HK:=hdz (show k = leastI ([]:List Tre) ∧ k < 2147483648 ∧ ([]:List Tre).drop k = [] from ⟨hk,by rw [hk];decide,by simp⟩);clear h hm hb1 bH bE h0 h1 h2 h3 hk;go_enter Tryz.func332,Tryz.ntmps332
 go_wp2_with fail
 generalize (w.alloc (.cells #[.pointer p.q,.int .i64 p.n] 257)).alloc (.cells #[.pointer none,.int .i64 0] 257) = w1 at *;obtain ⟨a,ha⟩:=exq (w.heap.size);rw [← ha] at HB ⊢;have HA:=hdz (Nat.le_of_eq ha.symm);clear ha;((with_reducible refine (place_any mo c m ⟨[]⟩ p _ KK.out.mt HN.out.1 (by have:=HN.out;omega) HL.out).mono ?_);rintro e w2 ⟨rfl,hm2,hb2⟩);rw [show leastI (Lh.mk ([])).ts = k from HK.out.1.symm];have K2:=hdz (KK.out.turn hm2 hb2 node_ne);have L2:=hdz (HL.out.bt hb2 KK.out.mt);have B2:=hdz (anz (HB.out.1.bt hb2 KK.out.mt (by decide)) (HB.out.2.bt hb2 KK.out.mt (by decide)));have f0:=B2.out.1.c0;have f1:=B2.out.1.c1;clear hm2 hb2 HL KK HB;go_wp2_with fail
 ((with_reducible refine (drop_h L2.out k HK.out.2.1).mono ?_);rintro e w3 ⟨p3,rfl,ht3,hb3⟩);have hb4:Below w2.heap.size w2 (w3.alloc (.cells #[.pointer p3.q,.int .i64 p3.n] 255)):=hb3.alloc hb3.size (.cells #[.pointer p3.q,.int .i64 p3.n] 255);have bV:=Box2.new w3 255 (.pointer p3.q) (.int .i64 p3.n);have L3:=hdz (show LAt (w3.alloc (.cells #[.pointer p3.q,.int .i64 p3.n] 255)) ⟨[]⟩ p3 from LAt.stay (show LAt w3 ⟨[]⟩ p3 from HK.out.2.2 ▸ ht3) (bqA _));have L2b:=hdz (L2.out.stay hb4);have K3:=hdz (K2.out.stay hb4);have HVL:=hdz (Nat.lt_of_lt_of_le B2.out.2.lt hb3.size);have B3:=hdz (anz (B2.out.1.stay hb4) (anz (B2.out.2.stay hb4) bV));clear ht3 hb3 hb4 bV f0 f1 K2 L2 B2;go_wp2_with fail
 generalize w3.alloc (.cells #[.pointer p3.q,.int .i64 p3.n] 255) = w4 at *;obtain ⟨v,hv⟩:=exq (w3.heap.size);rw [← hv] at B3 HVL ⊢;clear hv;((with_reducible refine (first_0 L3.out).mono ?_);rintro e w5 ⟨rfl,hb5⟩);have K5:=hdz (K3.out.stay hb5);have B5:=hdz (B3.out.2.1.stay hb5);have z0:=B5.out.z0;have z1:=B5.out.z1;have r0:=B5.out.c0;have r1:=B5.out.c1;have s0:=(B5.out.set (.pointer none) (.int .i64 0)).c0;have s1:=(B5.out.set (.pointer none) (.int .i64 0)).c1;clear hb5;go_wp2_with fail
 have hk:=K5.out.put2 B5.out heapT_ne (by decide) (by have:=HA.out;omega) (.pointer none) (.int .i64 0);exact bodyPost_ret (v := .tuple #[hp ⟨none,0⟩,.bool false]) (by simp [results,Tryz.results332,go_sem,s0,s1]) rfl ⟨⟨none,0⟩,rfl,LAt.nil _,by simpa [Lh.tellN,Lh.nil] using hk.mt,hk.bt⟩
theorem pop_some_any (mo:Option Nat) (c m:Int) (t:Tre) (r:List Tre) (p:HP) (w:World) (hs27:bSize (t :: r) < 134217728) (hm:MAt w mo c m) (h0:0 ≤ c) (h1:c < 144115188075855872) (h2:0 ≤ m) (h3:m < 144115188075855872) (h:LAt w ⟨t :: r⟩ p):Calls Tryz.prog 332 #[hp p,mAddr mo] w (Popped mo (c + ((Lh.mk (t :: r)).popC + (Lh.mk (t :: r)).tellN:Nat)) (m + (Lh.mk (t :: r)).popM) (Lh.mk (t :: r)).pop true w):=by
 have hb1:Below w.heap.size w ((w.alloc (.cells #[.pointer p.q,.int .i64 p.n] 257)).alloc (.cells #[.pointer none,.int .i64 0] 257)):=((Below.refl _ w).alloc (Nat.le_refl _) _).alloc (by simp) _;have bH:=(Box2.new w 257 (.pointer p.q) (.int .i64 p.n)).alloc (.cells #[.pointer none,.int .i64 0] 257);have bE:=Box2.new (w.alloc (.cells #[.pointer p.q,.int .i64 p.n] 257)) 257 (.pointer none) (.int .i64 0);simp only [World.size_alloc] at bE;have HL:=hdz (show LAt _ ⟨t :: r⟩ p from h.stay hb1);have KK:=hdz ((Trk.refl (N:=NodeT) hm).stay hb1);have HB:=hdz (anz bH bE);have HN:=hdz (anz h0 (anz h1 (anz h2 h3)));obtain ⟨k,hk⟩:∃ k,k = leastI (t :: r):=⟨_,rfl⟩;obtain ⟨u,us,hu1,hu2,hu3,hu4,hu5⟩:=drop_least (t:=t) (r:=r);have hlen:=h.len;have hsm:=h.small;have hok:sOk (t :: r):=h.right;have hlt:=leastI_lt (l:=t :: r) (by simp);have htl:(Lh.mk (t :: r)).tellN ≤ (Lh.mk (t :: r)).size:=tellN_size _;have hpl:=pop_counts (Lh.mk (t :: r));change (t :: r).length < _ at hlen;change bSize (t :: r) < _ at hsm;have hus:=size_in hu5;have hrs:=rest_size hlt;have HK:=hdz (show k = leastI (t :: r) ∧ k < 2147483648 ∧ (t :: r).drop k = u :: us from ⟨hk,by omega,by rw [hk];exact hu1⟩);have HU:=hdz (show (kidsAt (t :: r) k = u.ks.list.reverse ∧ besAt (t :: r) k = u.bs) ∧ (t :: r).take k ++ us = restAt (t :: r) k ∧ k ≤ (t :: r).length ∧ u.size ≤ bSize (t :: r) ∧ bSize (restAt (t :: r) k) ≤ bSize (t :: r) ∧ (t :: r).length < 268435456 ∧ bSize (t :: r) < 268435456 from ⟨hk ▸ hu3,by unfold restAt;rw [hk,hu4],by omega,hus,hk ▸ hrs,hlen,hsm⟩);have HPS:=hdz (show bSize (kidsAt (t :: r) k) + bSize (restAt (t :: r) k) + u.bs.length < 134217728 from by have h8:=pop_parts hlt;rw [← hk] at h8;rw [← hk] at hu3;rw [hu3.2] at h8;omega);have HO:=hdz (anz hok (anz (hok.hok u hu5) (hok.sk u hu5)));have HPO:=hdz (show (Lh.mk (t :: r)).pop = puts ⟨sBase (t :: r) k⟩ u.bs ∧ (Lh.mk (t :: r)).popC = sBaseN (t :: r) k + putC ⟨sBase (t :: r) k⟩ u.bs ∧ (Lh.mk (t :: r)).popM = sBaseN (t :: r) k + putM ⟨sBase (t :: r) k⟩ u.bs ∧ (Lh.mk (t :: r)).tellN < 268435456 ∧ (Lh.mk (t :: r)).popC < 536870912 ∧ (Lh.mk (t :: r)).popM < 536870912 from ⟨by rw [← hu3.2,← hk];exact pop_puts t r k hk,by rw [← hu3.2,← hk];exact popC_puts t r k hk,by rw [← hu3.2,← hk];exact popM_puts t r k hk,Nat.lt_of_le_of_lt htl hsm,by have h8:(Lh.mk (t :: r)).size = bSize (t :: r):=rfl;omega,by have h8:(Lh.mk (t :: r)).size = bSize (t :: r):=rfl;omega⟩);clear hu1 hu2 hu3 hu4 hu5 hlen hlt hsm hok htl hpl hus hrs;clear h hm hb1 bH bE h0 h1 h2 h3 hk;go_enter Tryz.func332,Tryz.ntmps332
 go_wp2_with fail
 generalize (w.alloc (.cells #[.pointer p.q,.int .i64 p.n] 257)).alloc (.cells #[.pointer none,.int .i64 0] 257) = w1 at *;obtain ⟨a,ha⟩:=exq (w.heap.size);rw [← ha] at HB ⊢;have HA:=hdz (Nat.le_of_eq ha.symm);clear ha;((with_reducible refine (place_any mo c m ⟨t :: r⟩ p _ KK.out.mt HN.out.1 (by have:=HN.out;omega) HL.out).mono ?_);rintro e w2 ⟨rfl,hm2,hb2⟩);rw [show leastI (Lh.mk (t :: r)).ts = k from HK.out.1.symm];have K2:=hdz (KK.out.turn hm2 hb2 node_ne);have L2:=hdz (HL.out.bt hb2 KK.out.mt);have B2:=hdz (anz (HB.out.1.bt hb2 KK.out.mt (by decide)) (HB.out.2.bt hb2 KK.out.mt (by decide)));have f0:=B2.out.1.c0;have f1:=B2.out.1.c1;clear hm2 hb2 HL KK HB;go_wp2_with fail
 ((with_reducible refine (drop_h L2.out k HK.out.2.1).mono ?_);rintro e w3 ⟨p3,rfl,ht3,hb3⟩);have hb4:Below w2.heap.size w2 (w3.alloc (.cells #[.pointer p3.q,.int .i64 p3.n] 255)):=hb3.alloc hb3.size (.cells #[.pointer p3.q,.int .i64 p3.n] 255);have bV:=Box2.new w3 255 (.pointer p3.q) (.int .i64 p3.n);have L3:=hdz (show LAt (w3.alloc (.cells #[.pointer p3.q,.int .i64 p3.n] 255)) ⟨u :: us⟩ p3 from LAt.stay (show LAt w3 ⟨u :: us⟩ p3 from HK.out.2.2 ▸ ht3) (bqA _));have L2b:=hdz (L2.out.stay hb4);have K3:=hdz (K2.out.stay hb4);have HVL:=hdz (Nat.lt_of_lt_of_le B2.out.2.lt hb3.size);have B3:=hdz (anz (B2.out.1.stay hb4) (anz (B2.out.2.stay hb4) bV));clear ht3 hb3 hb4 bV f0 f1 K2 L2 B2;go_wp2_with fail
 generalize w3.alloc (.cells #[.pointer p3.q,.int .i64 p3.n] 255) = w4 at *;obtain ⟨v,hv⟩:=exq (w3.heap.size);rw [← hv] at B3 HVL ⊢;clear hv;obtain ⟨fa,hfa,hc⟩:=first_h L3.out;have HC:=hdz hc;have TF:=hdz hfa;clear hc hfa;((with_reducible refine HC.out.mono ?_);rintro e w5 ⟨rfl,hb5⟩);have K5:=hdz (K3.out.stay hb5);have B5:=hdz (anz (B3.out.1.stay hb5) (anz (B3.out.2.1.stay hb5) (B3.out.2.2.stay hb5)));have L5:=hdz (anz (show LAt w5 ⟨t :: r⟩ p from L2b.out.stay hb5) (anz (L3.out.stay hb5) (TF.out.stay hb5)));clear hb5 HC TF K3 B3 L3 L2b;go_wp2_with fail
 refine wp_after (R:=fun x x' w' => ∃ (u27 u28 u29 u30 u31 u32 u33 u34 u35:Value) (g:Nat) (p9:HP),x' = ((((((((((x.put (some 27) u27).put (some 28) u28).put (some 29) u29).put (some 30) u30).put (some 31) u31).put (some 32) u32).put (some 33) u33).put (some 34) u34).put (some 35) u35).put (some 10) (.pointer (some ⟨g,0,none⟩))) ∧ Below w5.heap.size w5 w' ∧ w5.heap.size ≤ g ∧ Box2 w' g 255 (.pointer p9.q) (.int .i64 p9.n) ∧ LAt w' ⟨restAt (t :: r) k⟩ p9) ?_ ?_
 ·have HS:=hdz (fun (w':World) (hz:Below w5.heap.size w5 w') => (show w'.cell? ⟨a,0,none⟩ = some (.pointer p.q) ∧ w'.cell? ⟨a,1,none⟩ = some (.int .i64 p.n) ∧ w'.cell? ⟨v,0,none⟩ = some (.pointer p3.q) ∧ w'.cell? ⟨v,1,none⟩ = some (.int .i64 p3.n) from ⟨(B5.out.1.stay hz).c0,(B5.out.1.stay hz).c1,(B5.out.2.2.stay hz).c0,(B5.out.2.2.stay hz).c1⟩));have hB:=(Below.refl w5.heap.size w5).drew;have hLa:=L5.out.1.stay ((Below.refl _ _).drew);have hLb:=L5.out.2.1.stay ((Below.refl _ _).drew);have hSZ:=hB.size;refine wp_region_noPanic ?_;refine wp_region_held_drew (S:=fun w' => w'.cell? ⟨a,0,none⟩ = some (.pointer p.q) ∧ w'.cell? ⟨a,1,none⟩ = some (.int .i64 p.n) ∧ w'.cell? ⟨v,0,none⟩ = some (.pointer p3.q) ∧ w'.cell? ⟨v,1,none⟩ = some (.int .i64 p3.n)) (by kernel_rfl) (HS.out _ hB) (fun hH => ?_);generalize hwd:w5.drew = wd at *;clear hwd;refine tk 0 hH ?_;try simp only [bkz]
  refine tk 1 hH ?_;try simp only [bkz]
  refine tk 3 hH ?_;try simp only [bkz]
  refine tk 6 hH ?_;try simp only [bkz]
  refine rd2 2 9 (fun K hK => ?_) (fun K hK => ?_)
  ·go_simp;go_at_call 247
   have hmt:MAt wd (none:Option Nat) 0 0:=trivial;(with_reducible refine (all_h hLa hmt).mono ?_);rintro e w6 ⟨A,n6,c6,rfl,hr, -,hb⟩;replace hLb:=hLb.stay hb;replace hB:=hB.trans (hb.mono hSZ);replace hSZ:=Nat.le_trans hSZ hb.size;clear hb hLa;have c1:k ≤ n6:=by have:=hr.len;have:=HU.out;omega
   have c2:k ≤ c6:=Nat.le_trans c1 hr.cap;have c3:(0:Int) ≤ (k:Int):=by omega
   have c4:(k:Int) ≤ (c6:Int):=by omega
   have c5:(k:Int) ≤ (n6:Int):=by omega
   refine hK.out _ _ ?_ (fun hH2 => ?_)
   ·exact HS.out _ hB
   clear hK K hH;have hH:=hH2;clear hH2;try simp only [bkz]
   refine tk 4 hH ?_;try simp only [bkz]
   refine rd2 5 9 (fun K hK => ?_) (fun K hK => ?_)
   ·go_simp;go_at_call 342
    obtain ⟨ps,hr1,hr2⟩:=hr.take k;(with_reducible refine (of_h hr1 hr2 (by rw [List.length_take];have:=HU.out;omega) (Nat.lt_of_le_of_lt (bSize_take_le _ _) HU.out.2.2.2.2.2.2) (sub_ok HO.out.1 (List.take_sublist k _))).mono ?_);rintro e w7 ⟨p7,rfl,ht7,hb⟩;replace hLb:=hLb.stay hb;replace hB:=hB.trans (hb.mono hSZ);replace hSZ:=Nat.le_trans hSZ hb.size;clear hb hr hr1 hr2;refine hK.out _ _ ?_ (fun hH2 => ?_)
    ·exact HS.out _ hB
    clear hK K hH;have hH:=hH2;clear hH2;try simp only [bkz]
    refine rd2 7 9 (fun K hK => ?_) (fun K hK => ?_)
    ·go_simp;go_at_call 160
     (with_reducible refine (restL_h hLb).mono ?_);rintro e w8 ⟨p8,rfl,ht8,hb⟩;replace ht7:=ht7.stay hb;replace ht8:LAt w8 ⟨us⟩ p8:=ht8;replace hB:=hB.trans (hb.mono hSZ);replace hSZ:=Nat.le_trans hSZ hb.size;clear hb hLb;refine hK.out _ _ ?_ (fun hH2 => ?_)
     ·exact HS.out _ hB
     clear hK K hH;have hH:=hH2;clear hH2;try simp only [bkz]
     refine rd2 8 9 (fun K hK => ?_) (fun K hK => ?_)
     focus
      go_simp;go_at_call 326
      (with_reducible refine (join_h ht7 ht8 (by rw [HU.out.2.1];have:=HU.out;omega) (by rw [HU.out.2.1];exact rest_ok HO.out.1 k)).mono ?_);rintro e w9 ⟨p9,rfl,ht9,hb⟩;rw [HU.out.2.1] at ht9;replace hB:=hB.trans (hb.mono hSZ);replace hSZ:=Nat.le_trans hSZ hb.size;clear hb ht7 ht8;refine hK.out _ _ ?_ (fun hH2 => ?_)
      ·exact HS.out _ hB
      clear hK K hH;have hH:=hH2;clear hH2;try simp only [bkz]
      refine rd1 9 (fun K hK => ?_);go_simp;refine hK.out _ _ ?_ (fun hH2 => ?_)
      ·exact HS.out _ (hB.alloc hSZ _)
      clear hK K hH;have hH:=hH2;clear hH2;have hv:=Box2.new w9 255 (.pointer none) (.int .i64 0);have hV:w5.heap.size ≤ w9.heap.size:=hSZ;replace ht9:=ht9.stay (bqA (.cells #[.pointer none,.int .i64 0] 255));replace hB:=hB.alloc hSZ (.cells #[.pointer none,.int .i64 0] 255);replace hSZ:=Nat.le_trans hSZ (show w9.heap.size ≤ (w9.alloc (.cells #[.pointer none,.int .i64 0] 255)).heap.size by simp);obtain ⟨g,hge⟩:=exq (w9.heap.size);rw [← hge] at hv hV ⊢;clear hge;generalize w9.alloc (.cells #[.pointer none,.int .i64 0] 255) = wA at *
     rotate_left
     focus
      go_simp;refine hK.out _ _ ?_ (fun hH2 => ?_)
      ·exact HS.out _ (hB.alloc hSZ _)
      clear hK K hH;have hH:=hH2;clear hH2;have hv:=Box2.new w8 255 (.pointer none) (.int .i64 0);have hV:w5.heap.size ≤ w8.heap.size:=hSZ;replace ht7:=ht7.stay (bqA (.cells #[.pointer none,.int .i64 0] 255));replace ht8:=ht8.stay (bqA (.cells #[.pointer none,.int .i64 0] 255));replace hB:=hB.alloc hSZ (.cells #[.pointer none,.int .i64 0] 255);replace hSZ:=Nat.le_trans hSZ (show w8.heap.size ≤ (w8.alloc (.cells #[.pointer none,.int .i64 0] 255)).heap.size by simp);obtain ⟨g,hge⟩:=exq (w8.heap.size);rw [← hge] at hv hV ⊢;clear hge;generalize w8.alloc (.cells #[.pointer none,.int .i64 0] 255) = wA at *;try simp only [bkz]
      refine rd1 8 (fun K hK => ?_);go_simp;go_at_call 326
      (with_reducible refine (join_h ht7 ht8 (by rw [HU.out.2.1];have:=HU.out;omega) (by rw [HU.out.2.1];exact rest_ok HO.out.1 k)).mono ?_);rintro e w9 ⟨p9,rfl,ht9,hb⟩;rw [HU.out.2.1] at ht9;replace hB:=hB.trans (hb.mono hSZ);replace hSZ:=Nat.le_trans hSZ hb.size;replace hv:=hv.stay hb;clear hb ht7 ht8;refine hK.out _ _ ?_ (fun hH2 => ?_)
      ·exact HS.out _ hB
      clear hK K hH;have hH:=hH2;clear hH2
     rotate_left
     all_goals
      try simp only [bkz]
      have vc0:=hv.c0;have vc1:=hv.c1;have vz0:=hv.z0;have vz1:=hv.z1;refine rd1 10 (fun K hK => ?_);go_simp;refine hK.out _ _ ?_ (fun hH2 => ?_)
      ·exact HS.out _ (below_set2 hB hV _ _)
      clear hK K hH;have hH:=hH2;clear hH2;have hv2:=hv.set (.pointer p9.q) (.int .i64 p9.n);have ht6:=ht9.set2 hv listT_ne (.pointer p9.q) (.int .i64 p9.n);have hB2:=below_set2 hB hV (.pointer p9.q) (.int .i64 p9.n);clear vc0 vc1 vz0 vz1;try simp only [bkz]
      refine dn ?_;clear hH;exact ⟨rfl,_,_,_,_,_,_,_,_,_,g,p9,by (try simp only [bkz]);rfl,hB2,hV,hv2,ht6⟩
    ·go_simp;refine hK.out _ _ ?_ (fun hH2 => ?_)
     ·exact HS.out _ (hB.alloc hSZ _)
     clear hK K hH;have hH:=hH2;clear hH2;have hv:=Box2.new w7 255 (.pointer none) (.int .i64 0);have hV:w5.heap.size ≤ w7.heap.size:=hSZ;replace ht7:=ht7.stay (bqA (.cells #[.pointer none,.int .i64 0] 255));replace hLb:=hLb.stay (bqA (.cells #[.pointer none,.int .i64 0] 255));replace hB:=hB.alloc hSZ (.cells #[.pointer none,.int .i64 0] 255);replace hSZ:=Nat.le_trans hSZ (show w7.heap.size ≤ (w7.alloc (.cells #[.pointer none,.int .i64 0] 255)).heap.size by simp);obtain ⟨g,hge⟩:=exq (w7.heap.size);rw [← hge] at hv hV ⊢;clear hge;generalize w7.alloc (.cells #[.pointer none,.int .i64 0] 255) = wA at *;try simp only [bkz]
     refine rd1 7 (fun K hK => ?_);go_simp;go_at_call 160
     (with_reducible refine (restL_h hLb).mono ?_);rintro e w8 ⟨p8,rfl,ht8,hb⟩;replace ht7:=ht7.stay hb;replace ht8:LAt w8 ⟨us⟩ p8:=ht8;replace hB:=hB.trans (hb.mono hSZ);replace hSZ:=Nat.le_trans hSZ hb.size;replace hv:=hv.stay hb;clear hb hLb;refine hK.out _ _ ?_ (fun hH2 => ?_)
     ·exact HS.out _ hB
     clear hK K hH;have hH:=hH2;clear hH2;try simp only [bkz]
     refine rd1 8 (fun K hK => ?_);go_simp;go_at_call 326
     (with_reducible refine (join_h ht7 ht8 (by rw [HU.out.2.1];have:=HU.out;omega) (by rw [HU.out.2.1];exact rest_ok HO.out.1 k)).mono ?_);rintro e w9 ⟨p9,rfl,ht9,hb⟩;rw [HU.out.2.1] at ht9;replace hB:=hB.trans (hb.mono hSZ);replace hSZ:=Nat.le_trans hSZ hb.size;replace hv:=hv.stay hb;clear hb ht7 ht8;refine hK.out _ _ ?_ (fun hH2 => ?_)
     ·exact HS.out _ hB
     clear hK K hH;have hH:=hH2;clear hH2;try simp only [bkz]
     have vc0:=hv.c0;have vc1:=hv.c1;have vz0:=hv.z0;have vz1:=hv.z1;refine rd1 10 (fun K hK => ?_);go_simp;refine hK.out _ _ ?_ (fun hH2 => ?_)
     ·exact HS.out _ (below_set2 hB hV _ _)
     clear hK K hH;have hH:=hH2;clear hH2;have hv2:=hv.set (.pointer p9.q) (.int .i64 p9.n);have ht6:=ht9.set2 hv listT_ne (.pointer p9.q) (.int .i64 p9.n);have hB2:=below_set2 hB hV (.pointer p9.q) (.int .i64 p9.n);clear vc0 vc1 vz0 vz1;try simp only [bkz]
     refine dn ?_;clear hH;exact ⟨rfl,_,_,_,_,_,_,_,_,_,g,p9,by (try simp only [bkz]);rfl,hB2,hV,hv2,ht6⟩
   ·go_simp;refine hK.out _ _ ?_ (fun hH2 => ?_)
    ·exact HS.out _ (hB.alloc hSZ _)
    clear hK K hH;have hH:=hH2;clear hH2;have hv:=Box2.new w6 255 (.pointer none) (.int .i64 0);have hV:w5.heap.size ≤ w6.heap.size:=hSZ;replace hr:=hr.stay (bqA (.cells #[.pointer none,.int .i64 0] 255));replace hLb:=hLb.stay (bqA (.cells #[.pointer none,.int .i64 0] 255));replace hB:=hB.alloc hSZ (.cells #[.pointer none,.int .i64 0] 255);replace hSZ:=Nat.le_trans hSZ (show w6.heap.size ≤ (w6.alloc (.cells #[.pointer none,.int .i64 0] 255)).heap.size by simp);obtain ⟨g,hge⟩:=exq (w6.heap.size);rw [← hge] at hv hV ⊢;clear hge;generalize w6.alloc (.cells #[.pointer none,.int .i64 0] 255) = wA at *;try simp only [bkz]
    refine rd1 5 (fun K hK => ?_);go_simp;go_at_call 342
    obtain ⟨ps,hr1,hr2⟩:=hr.take k;(with_reducible refine (of_h hr1 hr2 (by rw [List.length_take];have:=HU.out;omega) (Nat.lt_of_le_of_lt (bSize_take_le _ _) HU.out.2.2.2.2.2.2) (sub_ok HO.out.1 (List.take_sublist k _))).mono ?_);rintro e w7 ⟨p7,rfl,ht7,hb⟩;replace hLb:=hLb.stay hb;replace hB:=hB.trans (hb.mono hSZ);replace hSZ:=Nat.le_trans hSZ hb.size;replace hv:=hv.stay hb;clear hb hr hr1 hr2;refine hK.out _ _ ?_ (fun hH2 => ?_)
    ·exact HS.out _ hB
    clear hK K hH;have hH:=hH2;clear hH2;try simp only [bkz]
    refine rd1 7 (fun K hK => ?_);go_simp;go_at_call 160
    (with_reducible refine (restL_h hLb).mono ?_);rintro e w8 ⟨p8,rfl,ht8,hb⟩;replace ht7:=ht7.stay hb;replace ht8:LAt w8 ⟨us⟩ p8:=ht8;replace hB:=hB.trans (hb.mono hSZ);replace hSZ:=Nat.le_trans hSZ hb.size;replace hv:=hv.stay hb;clear hb hLb;refine hK.out _ _ ?_ (fun hH2 => ?_)
    ·exact HS.out _ hB
    clear hK K hH;have hH:=hH2;clear hH2;try simp only [bkz]
    refine rd1 8 (fun K hK => ?_);go_simp;go_at_call 326
    (with_reducible refine (join_h ht7 ht8 (by rw [HU.out.2.1];have:=HU.out;omega) (by rw [HU.out.2.1];exact rest_ok HO.out.1 k)).mono ?_);rintro e w9 ⟨p9,rfl,ht9,hb⟩;rw [HU.out.2.1] at ht9;replace hB:=hB.trans (hb.mono hSZ);replace hSZ:=Nat.le_trans hSZ hb.size;replace hv:=hv.stay hb;clear hb ht7 ht8;refine hK.out _ _ ?_ (fun hH2 => ?_)
    ·exact HS.out _ hB
    clear hK K hH;have hH:=hH2;clear hH2;try simp only [bkz]
    have vc0:=hv.c0;have vc1:=hv.c1;have vz0:=hv.z0;have vz1:=hv.z1;refine rd1 10 (fun K hK => ?_);go_simp;refine hK.out _ _ ?_ (fun hH2 => ?_)
    ·exact HS.out _ (below_set2 hB hV _ _)
    clear hK K hH;have hH:=hH2;clear hH2;have hv2:=hv.set (.pointer p9.q) (.int .i64 p9.n);have ht6:=ht9.set2 hv listT_ne (.pointer p9.q) (.int .i64 p9.n);have hB2:=below_set2 hB hV (.pointer p9.q) (.int .i64 p9.n);clear vc0 vc1 vz0 vz1;try simp only [bkz]
    refine dn ?_;clear hH;exact ⟨rfl,_,_,_,_,_,_,_,_,_,g,p9,by (try simp only [bkz]);rfl,hB2,hV,hv2,ht6⟩
  ·go_simp;refine hK.out _ _ ?_ (fun hH2 => ?_)
   ·exact HS.out _ (hB.alloc hSZ _)
   clear hK K hH;have hH:=hH2;clear hH2;have hv:=Box2.new wd 255 (.pointer none) (.int .i64 0);have hV:w5.heap.size ≤ wd.heap.size:=hSZ;replace hLa:=hLa.stay (bqA (.cells #[.pointer none,.int .i64 0] 255));replace hLb:=hLb.stay (bqA (.cells #[.pointer none,.int .i64 0] 255));replace hB:=hB.alloc hSZ (.cells #[.pointer none,.int .i64 0] 255);replace hSZ:=Nat.le_trans hSZ (show wd.heap.size ≤ (wd.alloc (.cells #[.pointer none,.int .i64 0] 255)).heap.size by simp);obtain ⟨g,hge⟩:=exq (wd.heap.size);rw [← hge] at hv hV ⊢;clear hge;generalize wd.alloc (.cells #[.pointer none,.int .i64 0] 255) = wA at *;try simp only [bkz]
   refine rd1 2 (fun K hK => ?_);go_simp;go_at_call 247
   have hmt:MAt wA (none:Option Nat) 0 0:=trivial;(with_reducible refine (all_h hLa hmt).mono ?_);rintro e w6 ⟨A,n6,c6,rfl,hr, -,hb⟩;replace hLb:=hLb.stay hb;replace hB:=hB.trans (hb.mono hSZ);replace hSZ:=Nat.le_trans hSZ hb.size;replace hv:=hv.stay hb;clear hb hLa;have c1:k ≤ n6:=by have:=hr.len;have:=HU.out;omega
   have c2:k ≤ c6:=Nat.le_trans c1 hr.cap;have c3:(0:Int) ≤ (k:Int):=by omega
   have c4:(k:Int) ≤ (c6:Int):=by omega
   have c5:(k:Int) ≤ (n6:Int):=by omega
   refine hK.out _ _ ?_ (fun hH2 => ?_)
   ·exact HS.out _ hB
   clear hK K hH;have hH:=hH2;clear hH2;try simp only [bkz]
   refine tk 4 hH ?_;try simp only [bkz]
   refine rd1 5 (fun K hK => ?_);go_simp;go_at_call 342
   obtain ⟨ps,hr1,hr2⟩:=hr.take k;(with_reducible refine (of_h hr1 hr2 (by rw [List.length_take];have:=HU.out;omega) (Nat.lt_of_le_of_lt (bSize_take_le _ _) HU.out.2.2.2.2.2.2) (sub_ok HO.out.1 (List.take_sublist k _))).mono ?_);rintro e w7 ⟨p7,rfl,ht7,hb⟩;replace hLb:=hLb.stay hb;replace hB:=hB.trans (hb.mono hSZ);replace hSZ:=Nat.le_trans hSZ hb.size;replace hv:=hv.stay hb;clear hb hr hr1 hr2;refine hK.out _ _ ?_ (fun hH2 => ?_)
   ·exact HS.out _ hB
   clear hK K hH;have hH:=hH2;clear hH2;try simp only [bkz]
   refine rd1 7 (fun K hK => ?_);go_simp;go_at_call 160
   (with_reducible refine (restL_h hLb).mono ?_);rintro e w8 ⟨p8,rfl,ht8,hb⟩;replace ht7:=ht7.stay hb;replace ht8:LAt w8 ⟨us⟩ p8:=ht8;replace hB:=hB.trans (hb.mono hSZ);replace hSZ:=Nat.le_trans hSZ hb.size;replace hv:=hv.stay hb;clear hb hLb;refine hK.out _ _ ?_ (fun hH2 => ?_)
   ·exact HS.out _ hB
   clear hK K hH;have hH:=hH2;clear hH2;try simp only [bkz]
   refine rd1 8 (fun K hK => ?_);go_simp;go_at_call 326
   (with_reducible refine (join_h ht7 ht8 (by rw [HU.out.2.1];have:=HU.out;omega) (by rw [HU.out.2.1];exact rest_ok HO.out.1 k)).mono ?_);rintro e w9 ⟨p9,rfl,ht9,hb⟩;rw [HU.out.2.1] at ht9;replace hB:=hB.trans (hb.mono hSZ);replace hSZ:=Nat.le_trans hSZ hb.size;replace hv:=hv.stay hb;clear hb ht7 ht8;refine hK.out _ _ ?_ (fun hH2 => ?_)
   ·exact HS.out _ hB
   clear hK K hH;have hH:=hH2;clear hH2;try simp only [bkz]
   have vc0:=hv.c0;have vc1:=hv.c1;have vz0:=hv.z0;have vz1:=hv.z1;refine rd1 10 (fun K hK => ?_);go_simp;refine hK.out _ _ ?_ (fun hH2 => ?_)
   ·exact HS.out _ (below_set2 hB hV _ _)
   clear hK K hH;have hH:=hH2;clear hH2;have hv2:=hv.set (.pointer p9.q) (.int .i64 p9.n);have ht6:=ht9.set2 hv listT_ne (.pointer p9.q) (.int .i64 p9.n);have hB2:=below_set2 hB hV (.pointer p9.q) (.int .i64 p9.n);clear vc0 vc1 vz0 vz1;try simp only [bkz]
   refine dn ?_;clear hH;exact ⟨rfl,_,_,_,_,_,_,_,_,_,g,p9,by (try simp only [bkz]);rfl,hB2,hV,hv2,ht6⟩
 rintro x' w6 ⟨u27,u28,u29,u30,u31,u32,u33,u34,u35,g,p9,rfl,hB,hG,hg,ht⟩;try simp only [bkz]
 have K6:=hdz (K5.out.stay hB);have B6:=hdz (anz (B5.out.2.1.stay hB) hg);have L6:=hdz (anz ht (L5.out.2.2.stay hB));clear hB hG hg ht K5 B5 L5;go_wp2_with fail
 ((with_reducible refine (kids_any fa (some u) _ L6.out.2 (by have:=HU.out;simp only [osize];omega)).mono ?_);rintro e w7 ⟨v7,ps,rfl,hk7,hown,hb⟩);obtain ⟨A7,c7,rfl,hr7,hc7, -, -⟩:=hown.form;have hts:=(KAt.ts hk7).kp (Kpt.below hb);have K7:=hdz (K6.out.stay hb);have B7:=hdz (anz (B6.out.1.stay hb) (B6.out.2.stay hb));have L7:=hdz (L6.out.1.stay hb);have HR7:=hdz (anz (show Row1 Lt.one w7 A7 ps from hr7) hts);have hpl:=hts.length;have hkl:u.ks.list.length ≤ u.size:=by rw [Gn.Wood.list_len];have:=u.rank_lt;exact Nat.le_of_lt this
 obtain ⟨n7,hn7⟩:=exq (ps.length);rw [← hn7];have HN7:=hdz (show n7 = ps.length ∧ n7 < 268435456 from ⟨hn7,by have:=HU.out;have h9:ps.length = u.ks.list.length:=hpl;omega⟩);have L7b:=hdz (L6.out.2.stay hb);clear hk7 hown hr7 hb hts K6 B6 L6 hn7 hpl hkl;go_wp2_with fail
 ((with_reducible refine (Lt.of_l HN7.out.1 HR7.out.1 (by have:=HN7.out;omega)).mono ?_);rintro e w8 ⟨q8,n8,rfl,hl8,hb⟩);have K8:=hdz (K7.out.stay hb);have B8:=hdz (anz (B7.out.1.stay hb) (B7.out.2.stay hb));have L8:=hdz (anz (L7.out.stay hb) (anz hl8 (HR7.out.2.kp (Kpt.below hb))));have L8b:=hdz (L7b.out.stay hb);clear hl8 hb K7 B7 L7 L7b HR7;go_wp2_with fail
 ((with_reducible refine (Lt.rev_l L8.out.2.1).mono ?_);rintro e w9 ⟨q9,n9,rfl,hl9,hb⟩)
 have hkids:LAt w9 ⟨kidsAt (t :: r) k⟩ ⟨q9,(n9:Int)⟩:=by
  rw [HU.out.1.1];exact LAt.of hl9 ((L8.out.2.2.kp (Kpt.below hb)).reverse) (by rw [bSize_reverse,bSize_list];have:=HU.out;have h9:u.size = 1 + u.bs.length + u.ks.size:=rfl;omega) (kids_ok HO.out.2.1 HO.out.2.2)
 have hA:=(Below.refl w9.heap.size w9).alloc (Nat.le_refl _) (.cells #[.pointer q9,.int .i64 (n9:Int)] 257);have K9:=hdz ((K8.out.stay hb).stay hA);have B9:=hdz (anz ((B8.out.1.stay hb).stay hA) (anz ((B8.out.2.stay hb).stay hA) (Box2.new w9 257 (.pointer q9) (.int .i64 (n9:Int)))));have L9:=hdz (anz ((L8.out.1.stay hb).stay hA) (hkids.stay hA));have L9b:=hdz ((L8b.out.stay hb).stay hA);clear hl9 hb K8 B8 L8 L8b hkids hA;have c0:=B9.out.2.2.c0;have c1:=B9.out.2.2.c1;have d0:=B9.out.2.1.c0;have d1:=B9.out.2.1.c1;go_wp2_with fail
 generalize w9.alloc (.cells #[.pointer q9,.int .i64 (n9:Int)] 257) = wB at *;generalize w9.heap.size = b9 at *;have HMM:=meld_any mo ⟨kidsAt (t :: r) k⟩ ⟨restAt (t :: r) k⟩ (c + (Lh.mk (t :: r)).tellN) m ⟨q9,(n9:Int)⟩ p9 wB (by show bSize (kidsAt (t :: r) k) + bSize (restAt (t :: r) k) < _;have:=HPS.out;omega) K9.out.mt (by have:=HN.out;omega) (by have:=HN.out;have:=HPO.out;omega) HN.out.2.2.1 (by have:=HN.out;omega) L9.out.2 L9.out.1;have hkr:rises (kidsAt (t :: r) k):=by rw [HU.out.1.1];exact Gn.Wood.list_srise HO.out.2.2.2
 have HMB:=hdz (show meld ⟨kidsAt (t :: r) k⟩ ⟨restAt (t :: r) k⟩ = ⟨sBase (t :: r) k⟩ ∧ meldN ⟨kidsAt (t :: r) k⟩ ⟨restAt (t :: r) k⟩ = sBaseN (t :: r) k from base_meld hkr);rw [HMB.out.1,HMB.out.2] at HMM;clear hkr;have TB:=hdz (L9b.out);((with_reducible refine HMM.mono ?_);rintro e w10 ⟨p10,rfl,ht10,hm10,hb10⟩);have R10:=hdz (B9.out.1.bt hb10 K9.out.mt (by decide));have K10:=hdz (K9.out.turn hm10 hb10 node_ne);have L10:=hdz (anz ht10 (TB.out.kp (Kp.tree (Kp.bt hb10 K9.out.mt))));clear ht10 hm10 hb10 c0 c1 d0 d1 HMM;go_wp2_with fail
 ((with_reducible refine (beside_any fa (some u) _ L10.out.2 (by have:=HU.out;simp only [osize];omega)).mono ?_);rintro e w11 ⟨v11,rfl,hown,hb⟩);have hown:OwnT w11 w10.heap.size v11 u.bs:=hown;have hkb:∀ x ∈ u.bs,KeyC w11 x:=fun x hx => (beside_keys L10.out.2 x hx).stay hb;have HKB:=hdz hkb;obtain ⟨A11,c11,rfl,hr11, -, -, -⟩:=hown.form;have hblk:=hown.block;have R11:=hdz (R10.out.stay hb);have K11:=hdz (K10.out.stay hb);have L11:=hdz (LAt.stay L10.out.1 hb);have HNE:=hdz (show 0 < u.bs.length → ∀ b,mo = some b → ∀ q,A11 = some q → q.block ≠ b from fun h0 b eb q eq => by subst eb;subst eq;have h1:=hblk q.block (by obtain ⟨b1,o1,e1, -⟩:=hr11 h0;cases e1;rfl);have h2:b < w10.heap.size:=MAt.lt K10.out.mt;omega);have HR11:=hdz (show Row1 one0 w11 A11 u.bs from hr11);clear hown hblk hr11 hb hkb R10 K10 L10;go_wp2_with fail
 have HWW:=hdz (with_any mo (c + (Lh.mk (t :: r)).tellN + (sBaseN (t :: r) k:Nat)) (m + (sBaseN (t :: r) k:Nat)) ⟨sBase (t :: r) k⟩ p10 A11 u.bs c11 _ K11.out.mt (by have:=HN.out;omega) (by have:=HN.out;have:=HPO.out;omega) (by have:=HN.out;omega) (by have:=HN.out;have:=HPO.out;omega) HR11.out HKB.out (by show bSize (sBase (t :: r) k) + _ < _;rw [base_size];exact HPS.out) HNE.out L11.out);((with_reducible refine HWW.out.mono ?_);rintro e w12 ⟨p12,rfl,ht12,hm12,hb12⟩);have R12:=hdz (R11.out.bt hb12 K11.out.mt (by decide));have K12:=hdz (K11.out.turn hm12 hb12 node_ne);have L12:=hdz ht12;have z0:=R12.out.z0;have z1:=R12.out.z1;have r0:=R12.out.c0;have r1:=R12.out.c1;have s0:=(R12.out.set (.pointer p12.q) (.int .i64 p12.n)).c0;have s1:=(R12.out.set (.pointer p12.q) (.int .i64 p12.n)).c1;clear ht12 hm12 hb12 HWW;go_wp2_with fail
 have hk:=K12.out.put2 R12.out heapT_ne (by decide) (by have:=HA.out;omega) (.pointer p12.q) (.int .i64 p12.n);have e1:c + (((Lh.mk (t :: r)).popC + (Lh.mk (t :: r)).tellN:Nat):Int) = c + ((Lh.mk (t :: r)).tellN:Nat) + (sBaseN (t :: r) k:Nat) + (putC ⟨sBase (t :: r) k⟩ u.bs:Nat):=by rw [HPO.out.2.1];omega
 have e2:m + ((Lh.mk (t :: r)).popM:Nat) = m + (sBaseN (t :: r) k:Nat) + (putM ⟨sBase (t :: r) k⟩ u.bs:Nat):=by rw [HPO.out.2.2.1];omega
 exact bodyPost_ret (v := .tuple #[hp p12,.bool true]) (by simp [results,Tryz.results332,go_sem,s0,s1]) rfl ⟨p12,rfl,by rw [HPO.out.1];exact L12.out.set2 R12.out heapT_ne _ _,by rw [e1,e2];exact hk.mt,hk.bt⟩
theorem pop_any (mo:Option Nat) (c m:Int) (h:Lh) (p:HP) (w:World) (hs:h.size < 134217728) (hm:MAt w mo c m) (h0:0 ≤ c) (h1:c < 144115188075855872) (h2:0 ≤ m) (h3:m < 144115188075855872)
  (hh:LAt w h p):Calls Tryz.prog 332 #[hp p,mAddr mo] w (Popped mo (c + (h.popC + h.tellN:Nat)) (m + h.popM) h.pop h.some w):=by
 obtain ⟨ts⟩:=h
 cases ts with
 | nil =>
  refine (pop_none mo c m p w hm h0 h1 h2 h3 hh).mono fun e w' ⟨p',he,ht,hm',hb⟩ => ⟨p',he,ht,?_,hb⟩;have e1:(Lh.mk []).popC = 0:=rfl;have e3:(Lh.mk []).popM = 0:=rfl;have e2:(Lh.mk []).tellN = 0:=rfl;rw [e1,e2,e3];simpa using hm'
 | cons t r => exact pop_some_any mo c m t r p w hs hm h0 h1 h2 h3 hh
end Go.Proofs.YtmeodbjlmjpnbaaGreat.U.Hp
namespace Go.Proofs.YtmeodbjlmjpnbaaGreat.U.Hp
open Go.Sort Go.RowKit Go.Proofs.YtmeodbjlmjpnbaaGreat.U.Gn
end Go.Proofs.YtmeodbjlmjpnbaaGreat.U.Hp
