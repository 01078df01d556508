/- Contract of a skew binomial heap's Insert: which heap, how many comparisons and trees the meter counts, that what was there stays but for the meter's block. Conditions: fewer than 2 to the 27th elements, counts below 2 to the 59th. -/
import Derived.Test.YtmeodbjlmjpnbaaGreatPva
import Derived.Test.YtmeodbjlmjpnbaaGreatPua
import Derived.Test.YtmeodbjlmjpnbaaGreatPa
import Derived.Deep.LoopGhost
set_option maxRecDepth 100000
set_option maxHeartbeats 4000000
namespace Go.Proofs.YtmeodbjlmjpnbaaGreat.U.Hp
open Go.Sort Go.RowKit Go.Proofs.YtmeodbjlmjpnbaaGreat.U.Gn
structure Fi (W:World)(a:Nat)(p:HP)(x:aN):Prop where
 h:aB W a 257 (.pointer p.q) (.int .i64 p.n)
 r:aB W (a+1) 257 (.pointer none) (.int .i64 0)
 k:iI W x
section
variable {W W':World}{a:Nat}{p:HP}{x:aN}{mo:Option Nat}{c m:Int}
theorem Fi.new (w:World)(p:HP)(x:aN)(hx:iI w x):Fi ((w.alloc (.cells #[.pointer p.q,.int .i64 p.n] 257)).alloc (.cells #[.pointer none,.int .i64 0] 257)) w.heap.size p x:=by
 refine ⟨(aB.new w 257 _ _).alloc _,?_,hx.stay (aX w _ _)⟩;have:=aB.new (w.alloc (.cells #[.pointer p.q,.int .i64 p.n] 257)) 257 (.pointer none) (.int .i64 0);simpa only [World.size_alloc] using this
theorem Fi.stay (h:Fi W a p x)(hb:Below W.heap.size W W'):Fi W' a p x:=⟨h.h.stay hb,h.r.stay hb,h.k.stay hb⟩
theorem Fi.bt (h:Fi W a p x)(hb:Bt mo W W')(hm:aW W mo c m):Fi W' a p x:=⟨h.h.bt hb hm (by decide),h.r.bt hb hm (by decide),h.k.kp (Kp.bt hb hm).tree⟩
end
theorem zk {w:World}{f g:ai}{r:List ai}{p:HP}(h:aA w ⟨f::g::r⟩ p):Calls Tryz.prog 162 #[hp p,.int .i64 2] w fun e w' => ∃p':HP,e=.returned (.agg #[.pointer p'.q,.int .i64 p'.n])∧aA w' ⟨r⟩ p'∧Below w.heap.size w w':=jT h 2 (by decide)
theorem zN (mo:Option Nat)(c m:Int)(x:aN)(p:HP)(w:World)(hx:iI w x)(hs:ah ([]:List ai)<134217728)(hm:aW w mo c m)(h0:0≤c)(h1:c<576460752303423488)(h2:0≤m)(h3:m<576460752303423487)
  (hh:aA w ⟨[]⟩ p):Calls Tryz.prog 149 #[hp p,aF mo,.pointer (some ⟨x.a,0,none⟩)] w (bU mo (c+(eX ([]:List ai):Nat)) (m+(eG ([]:List ai):Nat)) ⟨dQ ([]) x⟩ w):=by
 have HF:=hdz (Fi.new w p x hx);have KK:=hdz ((dL.refl (N:=au) hm).stay (aX w (.cells #[.pointer p.q,.int .i64 p.n] 257) (.cells #[.pointer none,.int .i64 0] 257)));have HH:=hdz (show aA _ ⟨[]⟩ p from hh.stay (aX w (.cells #[.pointer p.q,.int .i64 p.n] 257) (.cells #[.pointer none,.int .i64 0] 257)));have HN:=hdz (af hs (af h0 (af h1 (af h2 h3))));have HO:=hdz (af (show fZ ([]:List ai) from hh.right) (jo x (show fZ ([]:List ai) from hh.right)));clear hh hs h0 h1 h2 h3 hm hx;go_enter Tryz.func149,Tryz.ntmps149
 go_wp2_with fail
 generalize (w.alloc (.cells #[.pointer p.q,.int .i64 p.n] 257)).alloc (.cells #[.pointer none,.int .i64 0] 257)=w1 at *;obtain ⟨a,ha⟩:=aU (w.heap.size);rw [←ha]at HF ⊢;have HA:=hdz ha;clear ha;have HE:=hdz (show eX ([]:List ai)=0∧eG ([]:List ai)=1∧dQ [] x=[bY x] from ⟨rfl,rfl,rfl⟩);((with_reducible refine (eB HH.out).mono ?_);rintro e w2 ⟨rfl,hb⟩);have F2:=hdz (HF.out.stay hb);have K2:=hdz (KK.out.stay hb);have L2:=hdz ((show aA _ ⟨[]⟩ p from HH.out.stay hb));clear hb;have f20:=F2.out.h.c0;have f21:=F2.out.h.c1;go_wp2_with fail
 ((with_reducible refine (eZ L2.out).mono ?_);rintro e w3 ⟨p3,rfl,ht3,hb⟩);have F3:=hdz (F2.out.stay hb);have K3:=hdz (K2.out.stay hb);have L3:=hdz (af (show aA _ ⟨[]⟩ p from L2.out.stay hb) (show aA _ ⟨[]⟩ p3 from ht3));clear ht3 hb f20 f21;go_wp2_with fail
 ((with_reducible refine (eB L3.out.2).mono ?_);rintro e w4 ⟨rfl,hb⟩);have F4:=hdz (F3.out.stay hb);have K4:=hdz (K3.out.stay hb);have L4:=hdz ((show aA _ ⟨[]⟩ p from L3.out.1.stay hb));clear hb;have f40:=F4.out.h.c0;have f41:=F4.out.h.c1;go_wp2_with fail
 have n1:¬a=a+1:=by omega
 have n2:¬a+1=a:=by omega
 go_region_held3 (fun w'=>w'.cell? ⟨a,0,none⟩=some (.pointer p.q)∧w'.cell? ⟨a,1,none⟩=some (.int .i64 p.n)) (go_keep)
  (first|(go_at_call 163;((with_reducible refine (gN L5.out.1 (show gQ _ p5 (some (bY x)) from L5.out.2) (by rw [jI];have:=HN.out;(try simp only [ah]at *);omega) (HE.out.2.2▸HO.out.2)).mono ?_);rintro e w6 ⟨p6,rfl,Io,hb6⟩;have F6:=hdz (F5.out.stay hb6);have K6:=hdz (K5.out.stay hb6);have L6:=hdz Io;have kF60:=F6.out.h.c0;have kF61:=F6.out.h.c1;have r6:=F6.out.r.c0;have r7:=F6.out.r.c1;have z6:=F6.out.r.z0;have z7:=F6.out.r.z1;clear Io hb6))|(go_at_call 165;((with_reducible refine (j5 mo c m x _ (F4.out.k.stay ((Below.refl _ _).drew)) K4.out.drew.mt (by have:=HN.out;omega) (by have:=HN.out;omega)).mono ?_);rintro e w5 ⟨p5,rfl,Ip,Im,hb5⟩;have F5:=hdz ((F4.out.stay ((Below.refl _ _).drew)).bt hb5 K4.out.drew.mt);have K5:=hdz (K4.out.drew.turn Im hb5 ax);have L5:=hdz (af ((L4.out.stay ((Below.refl _ _).drew)).bt hb5 K4.out.drew.mt) Ip);have kF50:=F5.out.h.c0;have kF51:=F5.out.h.c1;clear Ip Im hb5)))
 go_wp2_with fail
 have s0:=(F6.out.r.set (.pointer p6.q) (.int .i64 p6.n)).c0;have s1:=(F6.out.r.set (.pointer p6.q) (.int .i64 p6.n)).c1;have hk:=K6.out.eY F6.out.r aj (by decide) (by have:=HA.out;omega) (.pointer p6.q) (.int .i64 p6.n);have eN:=HE.out.1;have eM:=HE.out.2.1;have eI:=HE.out.2.2;exact bodyPost_ret (v:=hp p6) (by simp [results,Tryz.results149,go_sem,s0,s1]) rfl ⟨p6,rfl,by rw [eI];exact L6.out.set2 F6.out.r aj _ _,by rw [eN,eM];simpa using hk.mt,hk.bt⟩
theorem y7 (mo:Option Nat)(c m:Int)(f:ai)(x:aN)(p:HP)(w:World)(hx:iI w x)(hs:ah ([f])<134217728)(hm:aW w mo c m)(h0:0≤c)(h1:c<576460752303423488)(h2:0≤m)(h3:m<576460752303423487)
  (hh:aA w ⟨[f]⟩ p):Calls Tryz.prog 149 #[hp p,aF mo,.pointer (some ⟨x.a,0,none⟩)] w (bU mo (c+(eX ([f]):Nat)) (m+(eG ([f]):Nat)) ⟨dQ ([f]) x⟩ w):=by
 have HF:=hdz (Fi.new w p x hx);have KK:=hdz ((dL.refl (N:=au) hm).stay (aX w (.cells #[.pointer p.q,.int .i64 p.n] 257) (.cells #[.pointer none,.int .i64 0] 257)));have HH:=hdz (show aA _ ⟨[f]⟩ p from hh.stay (aX w (.cells #[.pointer p.q,.int .i64 p.n] 257) (.cells #[.pointer none,.int .i64 0] 257)));have HN:=hdz (af hs (af h0 (af h1 (af h2 h3))));have HO:=hdz (af (show fZ ([f]) from hh.right) (jo x (show fZ ([f]) from hh.right)));clear hh hs h0 h1 h2 h3 hm hx;go_enter Tryz.func149,Tryz.ntmps149
 go_wp2_with fail
 generalize (w.alloc (.cells #[.pointer p.q,.int .i64 p.n] 257)).alloc (.cells #[.pointer none,.int .i64 0] 257)=w1 at *;obtain ⟨a,ha⟩:=aU (w.heap.size);rw [←ha]at HF ⊢;have HA:=hdz ha;clear ha;have HE:=hdz (show eX [f]=0∧eG [f]=1∧dQ [f] x=[bY x,f] from ⟨rfl,rfl,rfl⟩);obtain ⟨fa,hfa,hc⟩:=bN HH.out;have HC:=hdz hc;have Hfa:=hdz hfa;clear hc hfa;((with_reducible refine HC.out.mono ?_);rintro e w2 ⟨rfl,hb⟩);have F2:=hdz (HF.out.stay hb);have K2:=hdz (KK.out.stay hb);have L2:=hdz (af (show aA _ ⟨[f]⟩ p from HH.out.stay hb) (Hfa.out.stay hb));clear hb HC Hfa;have f20:=F2.out.h.c0;have f21:=F2.out.h.c1;go_wp2_with fail
 ((with_reducible refine (eZ L2.out.1).mono ?_);rintro e w3 ⟨p3,rfl,ht3,hb⟩);have F3:=hdz (F2.out.stay hb);have K3:=hdz (K2.out.stay hb);have L3:=hdz (af (show aA _ ⟨[f]⟩ p from L2.out.1.stay hb) (show aA _ ⟨[]⟩ p3 from ht3));clear ht3 hb f20 f21;go_wp2_with fail
 ((with_reducible refine (eB L3.out.2).mono ?_);rintro e w4 ⟨rfl,hb⟩);have F4:=hdz (F3.out.stay hb);have K4:=hdz (K3.out.stay hb);have L4:=hdz ((show aA _ ⟨[f]⟩ p from L3.out.1.stay hb));clear hb;have f40:=F4.out.h.c0;have f41:=F4.out.h.c1;go_wp2_with fail
 have n1:¬a=a+1:=by omega
 have n2:¬a+1=a:=by omega
 go_region_held3 (fun w'=>w'.cell? ⟨a,0,none⟩=some (.pointer p.q)∧w'.cell? ⟨a,1,none⟩=some (.int .i64 p.n)) (go_keep)
  (first|(go_at_call 163;((with_reducible refine (gN L5.out.1 (show gQ _ p5 (some (bY x)) from L5.out.2) (by rw [jI];have:=HN.out;(try simp only [ah]at *);omega) (HE.out.2.2▸HO.out.2)).mono ?_);rintro e w6 ⟨p6,rfl,Io,hb6⟩;have F6:=hdz (F5.out.stay hb6);have K6:=hdz (K5.out.stay hb6);have L6:=hdz Io;have kF60:=F6.out.h.c0;have kF61:=F6.out.h.c1;have r6:=F6.out.r.c0;have r7:=F6.out.r.c1;have z6:=F6.out.r.z0;have z7:=F6.out.r.z1;clear Io hb6))|(go_at_call 165;((with_reducible refine (j5 mo c m x _ (F4.out.k.stay ((Below.refl _ _).drew)) K4.out.drew.mt (by have:=HN.out;omega) (by have:=HN.out;omega)).mono ?_);rintro e w5 ⟨p5,rfl,Ip,Im,hb5⟩;have F5:=hdz ((F4.out.stay ((Below.refl _ _).drew)).bt hb5 K4.out.drew.mt);have K5:=hdz (K4.out.drew.turn Im hb5 ax);have L5:=hdz (af ((L4.out.stay ((Below.refl _ _).drew)).bt hb5 K4.out.drew.mt) Ip);have kF50:=F5.out.h.c0;have kF51:=F5.out.h.c1;clear Ip Im hb5)))
 go_wp2_with fail
 have s0:=(F6.out.r.set (.pointer p6.q) (.int .i64 p6.n)).c0;have s1:=(F6.out.r.set (.pointer p6.q) (.int .i64 p6.n)).c1;have hk:=K6.out.eY F6.out.r aj (by decide) (by have:=HA.out;omega) (.pointer p6.q) (.int .i64 p6.n);have eN:=HE.out.1;have eM:=HE.out.2.1;have eI:=HE.out.2.2;exact bodyPost_ret (v:=hp p6) (by simp [results,Tryz.results149,go_sem,s0,s1]) rfl ⟨p6,rfl,by rw [eI];exact L6.out.set2 F6.out.r aj _ _,by rw [eN,eM];simpa using hk.mt,hk.bt⟩
theorem Bh (mo:Option Nat)(c m:Int)(f g:ai)(r:List ai)(hq:f.rank≠g.rank)(x:aN)(p:HP)(w:World)(hx:iI w x)(hs:ah (f::g::r)<134217728)(hm:aW w mo c m)(h0:0≤c)(h1:c<576460752303423488)(h2:0≤m)(h3:m<576460752303423487)
  (hh:aA w ⟨f::g::r⟩ p):Calls Tryz.prog 149 #[hp p,aF mo,.pointer (some ⟨x.a,0,none⟩)] w (bU mo (c+(eX (f::g::r):Nat)) (m+(eG (f::g::r):Nat)) ⟨dQ (f::g::r) x⟩ w):=by
 have HF:=hdz (Fi.new w p x hx);have KK:=hdz ((dL.refl (N:=au) hm).stay (aX w (.cells #[.pointer p.q,.int .i64 p.n] 257) (.cells #[.pointer none,.int .i64 0] 257)));have HH:=hdz (show aA _ ⟨f::g::r⟩ p from hh.stay (aX w (.cells #[.pointer p.q,.int .i64 p.n] 257) (.cells #[.pointer none,.int .i64 0] 257)));have HN:=hdz (af hs (af h0 (af h1 (af h2 h3))));have HO:=hdz (af (show fZ (f::g::r) from hh.right) (jo x (show fZ (f::g::r) from hh.right)));clear hh hs h0 h1 h2 h3 hm hx;go_enter Tryz.func149,Tryz.ntmps149
 go_wp2_with fail
 generalize (w.alloc (.cells #[.pointer p.q,.int .i64 p.n] 257)).alloc (.cells #[.pointer none,.int .i64 0] 257)=w1 at *;obtain ⟨a,ha⟩:=aU (w.heap.size);rw [←ha]at HF ⊢;have HA:=hdz ha;clear ha;have HE:=hdz (show eX (f::g::r)=0∧eG (f::g::r)=1∧dQ (f::g::r) x=bY x::f::g::r from ⟨by show (if f.rank=g.rank then 2 else 0)=0;rw [if_neg hq],by show (if f.rank=g.rank then 2 else 1)=1;rw [if_neg hq],mM _ hq⟩);obtain ⟨fa,hfa,hc⟩:=bN HH.out;have HC:=hdz hc;have Hfa:=hdz hfa;clear hc hfa;((with_reducible refine HC.out.mono ?_);rintro e w2 ⟨rfl,hb⟩);have F2:=hdz (HF.out.stay hb);have K2:=hdz (KK.out.stay hb);have L2:=hdz (af (show aA _ ⟨f::g::r⟩ p from HH.out.stay hb) (Hfa.out.stay hb));clear hb HC Hfa;have f20:=F2.out.h.c0;have f21:=F2.out.h.c1;go_wp2_with fail
 ((with_reducible refine (eZ L2.out.1).mono ?_);rintro e w3 ⟨p3,rfl,ht3,hb⟩);have F3:=hdz (F2.out.stay hb);have K3:=hdz (K2.out.stay hb);have L3:=hdz (af (show aA _ ⟨f::g::r⟩ p from L2.out.1.stay hb) (af (L2.out.2.stay hb) (show aA _ ⟨g::r⟩ p3 from ht3)));clear ht3 hb f20 f21;go_wp2_with fail
 obtain ⟨ga,hga,hc⟩:=bN L3.out.2.2;have HC:=hdz hc;have Hga:=hdz hga;clear hc hga;((with_reducible refine HC.out.mono ?_);rintro e w4 ⟨rfl,hb⟩);have F4:=hdz (F3.out.stay hb);have K4:=hdz (K3.out.stay hb);have L4:=hdz (af (show aA _ ⟨f::g::r⟩ p from L3.out.1.stay hb) (af (L3.out.2.1.stay hb) (Hga.out.stay hb)));clear hb HC Hga;have f40:=F4.out.h.c0;have f41:=F4.out.h.c1;obtain ⟨rf,hrf⟩:=aU (f.rank);obtain ⟨rg,hrg⟩:=aU (g.rank);have HR:=hdz (af hrf hrg);rw [←hrf,←hrg]at hq;clear hrf hrg;go_wp2_with fail
 ((with_reducible refine (bC L4.out.2.1 rf HR.out.1).mono ?_);rintro e w5 ⟨rfl,hw⟩);subst hw;go_wp2_with fail
 ((with_reducible refine (bC L4.out.2.2 rg HR.out.2).mono ?_);rintro e w5 ⟨rfl,hw⟩);subst hw;have g1:((rf:Int) == (rg:Int))=false:=by simp;omega
 have g2:¬(rf:Int)=(rg:Int):=by omega
 clear hq;have L4b:=L4;clear L4;have L4:=hdz L4b.out.1;clear L4b;go_wp2_with fail
 have n1:¬a=a+1:=by omega
 have n2:¬a+1=a:=by omega
 go_region_held3 (fun w'=>w'.cell? ⟨a,0,none⟩=some (.pointer p.q)∧w'.cell? ⟨a,1,none⟩=some (.int .i64 p.n)) (go_keep)
  (first|(go_at_call 163;((with_reducible refine (gN L5.out.1 (show gQ _ p5 (some (bY x)) from L5.out.2) (by rw [jI];have:=HN.out;(try simp only [ah]at *);omega) (HE.out.2.2▸HO.out.2)).mono ?_);rintro e w6 ⟨p6,rfl,Io,hb6⟩;have F6:=hdz (F5.out.stay hb6);have K6:=hdz (K5.out.stay hb6);have L6:=hdz Io;have kF60:=F6.out.h.c0;have kF61:=F6.out.h.c1;have r6:=F6.out.r.c0;have r7:=F6.out.r.c1;have z6:=F6.out.r.z0;have z7:=F6.out.r.z1;clear Io hb6))|(go_at_call 165;((with_reducible refine (j5 mo c m x _ (F4.out.k.stay ((Below.refl _ _).drew)) K4.out.drew.mt (by have:=HN.out;omega) (by have:=HN.out;omega)).mono ?_);rintro e w5 ⟨p5,rfl,Ip,Im,hb5⟩;have F5:=hdz ((F4.out.stay ((Below.refl _ _).drew)).bt hb5 K4.out.drew.mt);have K5:=hdz (K4.out.drew.turn Im hb5 ax);have L5:=hdz (af ((L4.out.stay ((Below.refl _ _).drew)).bt hb5 K4.out.drew.mt) Ip);have kF50:=F5.out.h.c0;have kF51:=F5.out.h.c1;clear Ip Im hb5)))
 go_wp2_with fail
 have s0:=(F6.out.r.set (.pointer p6.q) (.int .i64 p6.n)).c0;have s1:=(F6.out.r.set (.pointer p6.q) (.int .i64 p6.n)).c1;have hk:=K6.out.eY F6.out.r aj (by decide) (by have:=HA.out;omega) (.pointer p6.q) (.int .i64 p6.n);have eN:=HE.out.1;have eM:=HE.out.2.1;have eI:=HE.out.2.2;exact bodyPost_ret (v:=hp p6) (by simp [results,Tryz.results149,go_sem,s0,s1]) rfl ⟨p6,rfl,by rw [eI];exact L6.out.set2 F6.out.r aj _ _,by rw [eN,eM];simpa using hk.mt,hk.bt⟩
theorem A9 (mo:Option Nat)(c m:Int)(f g:ai)(r:List ai)(hq:f.rank=g.rank)(x:aN)(p:HP)(w:World)(hx:iI w x)(hs:ah (f::g::r)<134217728)(hm:aW w mo c m)(h0:0≤c)(h1:c<576460752303423488)(h2:0≤m)(h3:m<576460752303423487)
  (hh:aA w ⟨f::g::r⟩ p):Calls Tryz.prog 149 #[hp p,aF mo,.pointer (some ⟨x.a,0,none⟩)] w (bU mo (c+(eX (f::g::r):Nat)) (m+(eG (f::g::r):Nat)) ⟨dQ (f::g::r) x⟩ w):=by
 have HF:=hdz (Fi.new w p x hx);have KK:=hdz ((dL.refl (N:=au) hm).stay (aX w (.cells #[.pointer p.q,.int .i64 p.n] 257) (.cells #[.pointer none,.int .i64 0] 257)));have HH:=hdz (show aA _ ⟨f::g::r⟩ p from hh.stay (aX w (.cells #[.pointer p.q,.int .i64 p.n] 257) (.cells #[.pointer none,.int .i64 0] 257)));have HN:=hdz (af hs (af h0 (af h1 (af h2 h3))));have HO:=hdz (af (show fZ (f::g::r) from hh.right) (jo x (show fZ (f::g::r) from hh.right)));clear hh hs h0 h1 h2 h3 hm hx;go_enter Tryz.func149,Tryz.ntmps149
 go_wp2_with fail
 generalize (w.alloc (.cells #[.pointer p.q,.int .i64 p.n] 257)).alloc (.cells #[.pointer none,.int .i64 0] 257)=w1 at *;obtain ⟨a,ha⟩:=aU (w.heap.size);rw [←ha]at HF ⊢;have HA:=hdz ha;clear ha;have HE:=hdz (show eX (f::g::r)=2∧eG (f::g::r)=2∧dQ (f::g::r) x=tq x f g::r from ⟨by show (if f.rank=g.rank then 2 else 0)=2;rw [if_pos hq],by show (if f.rank=g.rank then 2 else 1)=2;rw [if_pos hq],mK _ hq⟩);obtain ⟨fa,hfa,hc⟩:=bN HH.out;have HC:=hdz hc;have Hfa:=hdz hfa;clear hc hfa;((with_reducible refine HC.out.mono ?_);rintro e w2 ⟨rfl,hb⟩);have F2:=hdz (HF.out.stay hb);have K2:=hdz (KK.out.stay hb);have L2:=hdz (af (show aA _ ⟨f::g::r⟩ p from HH.out.stay hb) (Hfa.out.stay hb));clear hb HC Hfa;have f20:=F2.out.h.c0;have f21:=F2.out.h.c1;go_wp2_with fail
 ((with_reducible refine (eZ L2.out.1).mono ?_);rintro e w3 ⟨p3,rfl,ht3,hb⟩);have F3:=hdz (F2.out.stay hb);have K3:=hdz (K2.out.stay hb);have L3:=hdz (af (show aA _ ⟨f::g::r⟩ p from L2.out.1.stay hb) (af (L2.out.2.stay hb) (show aA _ ⟨g::r⟩ p3 from ht3)));clear ht3 hb f20 f21;go_wp2_with fail
 obtain ⟨ga,hga,hc⟩:=bN L3.out.2.2;have HC:=hdz hc;have Hga:=hdz hga;clear hc hga;((with_reducible refine HC.out.mono ?_);rintro e w4 ⟨rfl,hb⟩);have F4:=hdz (F3.out.stay hb);have K4:=hdz (K3.out.stay hb);have L4:=hdz (af (show aA _ ⟨f::g::r⟩ p from L3.out.1.stay hb) (af (L3.out.2.1.stay hb) (Hga.out.stay hb)));clear hb HC Hga;have f40:=F4.out.h.c0;have f41:=F4.out.h.c1;obtain ⟨rf,hrf⟩:=aU (f.rank);obtain ⟨rg,hrg⟩:=aU (g.rank);have HR:=hdz (af hrf hrg);rw [←hrf,←hrg]at hq;clear hrf hrg;go_wp2_with fail
 ((with_reducible refine (bC L4.out.2.1 rf HR.out.1).mono ?_);rintro e w5 ⟨rfl,hw⟩);subst hw;go_wp2_with fail
 ((with_reducible refine (bC L4.out.2.2 rg HR.out.2).mono ?_);rintro e w5 ⟨rfl,hw⟩);subst hw;have g1:((rf:Int) == (rg:Int))=true:=by simp;omega
 have g2:(rf:Int)=(rg:Int):=by omega
 clear hq;go_wp2_with fail
 ((with_reducible refine (zk L4.out.1).mono ?_);rintro e w6 ⟨p8,rfl,Io,hb6⟩);have Iu:Below w5.heap.size w5 (w6.alloc (.cells #[.pointer p8.q,.int .i64 p8.n] 255)):=hb6.alloc hb6.size (.cells #[.pointer p8.q,.int .i64 p8.n] 255);have bV:=aB.new w6 255 (.pointer p8.q) (.int .i64 p8.n);have F7:=hdz (F4.out.stay Iu);have K7:=hdz (K4.out.stay Iu);have L7:=hdz (af (show aA (w6.alloc (.cells #[.pointer p8.q,.int .i64 p8.n] 255)) ⟨r⟩ p8 from aA.stay (show aA w6 ⟨r⟩ p8 from Io) (bG _)) (af (L4.out.2.1.stay Iu) (L4.out.2.2.stay Iu)));have HVL:=hdz (Nat.lt_of_lt_of_le F4.out.r.lt hb6.size);clear Io hb6 Iu f40 f41 F4 K4 L4;have V7:=hdz bV;clear bV;go_wp2_with fail
 generalize w6.alloc (.cells #[.pointer p8.q,.int .i64 p8.n] 255)=w7 at *;obtain ⟨v,hv⟩:=aU (w6.heap.size);rw [←hv]at V7 HVL ⊢;clear hv;have v0:=V7.out.c0;have v1:=V7.out.c1;have n1:¬v=a+1:=by have:=HVL.out;omega
 have n2:¬a+1=v:=by have:=HVL.out;omega
 go_region_held3 (fun w'=>w'.cell? ⟨v,0,none⟩=some (.pointer p8.q)∧w'.cell? ⟨v,1,none⟩=some (.int .i64 p8.n)) (go_keep)
  (first|(go_at_call 163;((with_reducible refine (gN L8.out.1 L8.out.2 (by rw [wO];have:=HN.out;(try simp only [ah]at *);omega) (HE.out.2.2▸HO.out.2)).mono ?_);rintro e w9 ⟨p6,rfl,Io,hb6⟩;have F9:=hdz (F8.out.stay hb6);have V9:=hdz (V8.out.stay hb6);have K9:=hdz (K8.out.stay hb6);have L9:=hdz Io;have kV90:=V9.out.c0;have kV91:=V9.out.c1;have r6:=F9.out.r.c0;have r7:=F9.out.r.c1;have z6:=F9.out.r.z0;have z7:=F9.out.r.z1;clear Io hb6))|(go_at_call 164;((with_reducible refine (wW mo c m x fa ga (some f) (some g) _ (F7.out.k.stay ((Below.refl _ _).drew)) K7.out.drew.mt HN.out.2.1 (by have:=HN.out;omega) HN.out.2.2.2.1 (by have:=HN.out;omega) (L7.out.2.1.stay ((Below.refl _ _).drew)) (L7.out.2.2.stay ((Below.refl _ _).drew)) (by have:=HN.out;simp only [bF,ah]at *;omega) (by have:=HN.out;simp only [bF,ah]at *;omega)).mono ?_);rintro e w8 ⟨p5,rfl,Ip,Im,hb5⟩;have F8:=hdz ((F7.out.stay ((Below.refl _ _).drew)).bt hb5 K7.out.drew.mt);have V8:=hdz ((V7.out.stay ((Below.refl _ _).drew)).bt hb5 K7.out.drew.mt (by decide));have K8:=hdz (K7.out.drew.turn Im hb5 ax);have L8:=hdz (af ((L7.out.1.stay ((Below.refl _ _).drew)).bt hb5 K7.out.drew.mt) (show gQ _ p5 (some (tq x f g)) from Ip));have kV80:=V8.out.c0;have kV81:=V8.out.c1;clear Ip Im hb5)))
 go_wp2_with fail
 have s0:=(F9.out.r.set (.pointer p6.q) (.int .i64 p6.n)).c0;have s1:=(F9.out.r.set (.pointer p6.q) (.int .i64 p6.n)).c1;have hk:=K9.out.eY F9.out.r aj (by decide) (by have:=HA.out;omega) (.pointer p6.q) (.int .i64 p6.n);have eN:=HE.out.1;have eM:=HE.out.2.1;have eI:=HE.out.2.2;have hmt:=hk.mt;rw [show c+(bZ (some f) (some g):Nat)+(vE (some f) (some g):Nat)=c+((2:Nat):Int) from by simp only [bZ,vE];omega,show m+(bZ (some f) (some g):Nat)+1=m+((2:Nat):Int) from by simp only [bZ];omega]at hmt;exact bodyPost_ret (v:=hp p6) (by simp [results,Tryz.results149,go_sem,s0,s1]) rfl ⟨p6,rfl,by rw [eI];exact L9.out.set2 F9.out.r aj _ _,by rw [eN,eM];exact hmt,hk.bt⟩
theorem di (mo:Option Nat)(c m:Int)(h:Lh)(x:aN)(p:HP)(w:World)(hx:iI w x)(hs:h.size<134217728)(hm:aW w mo c m)(h0:0≤c)(h1:c<576460752303423488)(h2:0≤m)(h3:m<576460752303423487)
  (hh:aA w h p):Calls Tryz.prog 149 #[hp p,aF mo,hv x] w (bU mo (c+h.iJ) (m+h.iF) (h.insert x) w):=by
 obtain ⟨l⟩:=h;match l,hs,hh with
 | [],hs,hh=>exact zN mo c m x p w hx hs hm h0 h1 h2 h3 hh
 | [f],hs,hh=>exact y7 mo c m f x p w hx hs hm h0 h1 h2 h3 hh
 | f::g::r,hs,hh =>
  by_cases hq:f.rank=g.rank
  ·exact A9 mo c m f g r hq x p w hx hs hm h0 h1 h2 h3 hh
  ·exact Bh mo c m f g r hq x p w hx hs hm h0 h1 h2 h3 hh
end Go.Proofs.YtmeodbjlmjpnbaaGreat.U.Hp
namespace Go.Proofs.YtmeodbjlmjpnbaaGreat.U.Hp
open Go.Sort Go.RowKit Go.Proofs.YtmeodbjlmjpnbaaGreat.U.Gn
section
variable {W W':World}{b:Nat}{t:TypeId}{v:Value}{mo:Option Nat}{c m:Int}
theorem GK:¬au 125 := by unfold au dV;decide
theorem tu.keys:∀{xs:List aN} {p:Option Addr},tu W xs p → ∀x∈xs,iI W x
 | [],_,_,_,h=>by cases h
 | y::ys,_,⟨_,_,_,_,hy,hr⟩,x,h=>by
  rcases List.mem_cons.1 h with rfl|h
  ·exact hy
  ·exact tu.keys hr x h
theorem AP {p:Option Addr}{t:ai}(h:gQ W p (some t)):∀x∈t.bs,iI W x:=by
 obtain ⟨b,rfl,bp,kp, -, -,hb, -⟩:=h;exact tu.keys hb
end
abbrev puts (h:Lh)(xs:List aN):Lh:=xs.foldl Lh.insert h
theorem pJ:∀(xs:List aN) (h:Lh),(puts h xs).size=h.size+xs.length
 | [],_=>rfl
 | x::r,h=>by
  show (puts (h.insert x) r).size=_;rw [pJ r (h.insert x),gZ,List.length_cons];omega
theorem vk (h:Lh)(xs:List aN)(k:Nat)(hk:k<xs.length):dG h (xs.take (k+1))=dG h (xs.take k)+(puts h (xs.take k)).iJ∧dD h (xs.take (k+1))=dD h (xs.take k)+(puts h (xs.take k)).iF:=by
 rw [List.take_succ_eq_append_getElem hk];exact ⟨iU _ _ _,iP _ _ _⟩
theorem vJ (h:Lh)(xs:List aN)(k:Nat)(hk:k<xs.length):puts h (xs.take (k+1))=(puts h (xs.take k)).insert xs[k]:=by
 rw [List.take_succ_eq_append_getElem hk,puts,List.foldl_append];rfl
theorem uq (mo:Option Nat)(c m:Int)(h:Lh)(p0:HP)(A:Option Addr)(xs:List aN)(cap:Nat)(w:World)(hm:aW w mo c m)(h0:0≤c)(h1:c<288230376151711744)(h2:0≤m)(h3:m<288230376151711744)(hr:Row1 oH w A xs)(hkx:∀x∈xs,iI w x)(hn:h.size+xs.length<134217728)
  (hne:0<xs.length → ∀b,mo=some b → ∀q,A=some q→q.block≠b) (hh:aA w h p0) :
  Calls Tryz.prog 340 #[hp p0,aF mo,.slice A xs.length cap] w (bU mo (c+dG h xs) (m+dD h xs) (puts h xs) w):=by
 have HF:=hdz (F2.new w p0);have KK:=hdz ((dL.refl (N:=au) hm).stay (aX w (.cells #[.pointer p0.q,.int .i64 p0.n] 257) (.cells #[.pointer none,.int .i64 0] 257)));have HL:=hdz (hh.stay (aX w (.cells #[.pointer p0.q,.int .i64 p0.n] 257) (.cells #[.pointer none,.int .i64 0] 257)));have HR:=hdz (af hr hne);have HKX:=hdz hkx;have HN:=hdz (af h0 (af h1 (af h2 h3)));obtain ⟨n,hnn⟩:=aU (xs.length);rw [←hnn]at hn ⊢;have HX:=hdz (af hnn hn);clear hr hne hkx h0 h1 h2 h3 hm hnn hn hh;go_enter Tryz.func340,Tryz.ntmps340
 go_wp2_with fail
 generalize (w.alloc (.cells #[.pointer p0.q,.int .i64 p0.n] 257)).alloc (.cells #[.pointer none,.int .i64 0] 257)=w1 at *;obtain ⟨a,ha⟩:=aU (w.heap.size);rw [←ha]at HF ⊢;have HA:=hdz ha;clear ha;go_loopg [11] n (fun k i wr => ∃(j:Nat) (p:HP),i=.int .i64 (j:Int)∧j+k=n∧aB wr a 257 (.pointer p.q) (.int .i64 p.n)∧aB wr (a+1) 257 (.pointer none) (.int .i64 0)∧aA wr (puts h (xs.take j)) p∧dL au mo w (c+dG h (xs.take j)) (m+dD h (xs.take j)) wr)
 case atStart=>exact ⟨0,p0,rfl,by omega,HF.out.h,HF.out.r,HL.out,by simpa [dG,dD] using KK.out⟩
 case round =>
  obtain ⟨j,p,rfl,hj,hra,hrb,ht,hk⟩:=hrel;by_cases hlt:j<n
  ·have hjx:j<xs.length:=by rw [←HX.out.1];exact hlt
   obtain ⟨b,o,rfl,hc⟩:=HR.out.1 (by omega);have hx:=hc j hjx;have hne:=fun bb (eb:mo=some bb)=>HR.out.2 (by omega) bb eb _ rfl;have x0:wr.cell? ⟨b,o+j,none⟩=some (.pointer (some ⟨xs[j].a,0,none⟩)):=hk.bt.cell hx hne;have hkj:iI wr xs[j]:=(HKX.out _ (List.getElem_mem hjx)).kp (Kp.tree hk.kp);have hpl:=nH (xs.take j) h;have htl:(xs.take j).length=j:=by rw [List.length_take];omega
   rw [htl]at hpl;have hsz:(puts h (xs.take j)).size=h.size+j:=by rw [pJ,htl]
   have eP:=vk h xs j hjx;have eO:=vJ h xs j hjx;generalize xs[j]=x at *;have HKJ:=hdz hkj;have q1:(j:Int)<(n:Int):=by omega
   have q2:(0:Int)≤(j:Int):=by omega
   have h1c:=hra.c0;have h1d:=hra.c1;have X:=hdz (af hra (af hrb (af ht (af hk (af eP (af eO (af hpl (af hsz hj))))))));clear hra hrb ht hk eP eO hpl htl hsz hj hc hx hne hjx hkj;go_wp2_with fail
   clear h1c h1d x0;((with_reducible refine (di mo _ _ (puts h (xs.take j)) x p _ HKJ.out (by rw [X.out.2.2.2.2.2.2.2.1];have:=HX.out;omega) X.out.2.2.2.1.mt (by have:=HN.out;omega) (by have:=HN.out;have:=X.out.2.2.2.2.2.2.1;have:=HX.out;omega) (by have:=HN.out;omega) (by have:=HN.out;have:=X.out.2.2.2.2.2.2.1;have:=HX.out;omega) X.out.2.2.1).mono ?_);rintro e w2 ⟨p2,rfl,ht2,hm2,hb2⟩);obtain ⟨hra,hrb,ht,hk,eP,eO,hpl,hsz,hj⟩:=X.out;have hk2:=hk.turn hm2 hb2 ax;have ra2:=hra.bt hb2 hk.mt (by decide);have rb2:=hrb.bt hb2 hk.mt (by decide);have e1:c+((dG h (xs.take (j+1)):Nat):Int)=c+(dG h (xs.take j):Nat)+((puts h (xs.take j)).iJ:Nat):=by rw [eP.1];omega
   have e2:m+((dD h (xs.take (j+1)):Nat):Int)=m+(dD h (xs.take j):Nat)+((puts h (xs.take j)).iF:Nat):=by rw [eP.2];omega
   rw [←e1,←e2]at hk2;rw [←eO]at ht2;have z2:=ra2.z0;have z3:=ra2.z1;have r2:=ra2.c0;have r3:=ra2.c1;have Y:=hdz (af (ra2.set (.pointer p2.q) (.int .i64 p2.n)) (af (rb2.aside (g:=a) (by omega) (.pointer p2.q) (.int .i64 p2.n)) (af (ht2.set2 ra2 aj (.pointer p2.q) (.int .i64 p2.n)) (hk2.eY ra2 aj (by decide) (by rw [←HA.out];omega) (.pointer p2.q) (.int .i64 p2.n)))));clear hra hrb ht hk eP eO hpl hsz hk2 ra2 rb2 e1 e2 ht2 hm2 hb2 X;go_wp2_with fail
   go_roundg (n - 1 - j)
   case measure=>omega
   case rel=>exact ⟨j+1,p2,by have h5:=HX.out;congr 1;unfold wrap64;omega,by omega,Y.out.1,Y.out.2.1,Y.out.2.2.1,Y.out.2.2.2⟩
  ·have hjn:j=n:=by omega
   subst hjn;rw [HX.out.1,List.take_length]at ht hk;have h1c:=hra.c0;have h1d:=hra.c1;have r6:=hrb.c0;have r7:=hrb.c1;have z6:=hrb.z0;have z7:=hrb.z1;have s0:=(hrb.set (.pointer p.q) (.int .i64 p.n)).c0;have s1:=(hrb.set (.pointer p.q) (.int .i64 p.n)).c1;have hk2:=hk.eY hrb aj (by decide) (by rw [←HA.out];omega) (.pointer p.q) (.int .i64 p.n);have X:=hdz (af (ht.set2 hrb aj (.pointer p.q) (.int .i64 p.n)) hk2);clear hra hrb ht hk hk2 hlt hj;go_wp2_with fail
   exact bodyPost_ret (v:=hp p) (by simp [results,Tryz.results340,go_sem,s0,s1]) rfl ⟨p,rfl,X.out.1,X.out.2.mt,X.out.2.bt⟩
end Go.Proofs.YtmeodbjlmjpnbaaGreat.U.Hp
namespace Go.Proofs.YtmeodbjlmjpnbaaGreat.U.Hp
open Go.Sort Go.RowKit Go.Proofs.YtmeodbjlmjpnbaaGreat.U.Gn
theorem xV {w:World}:gQ w none none:=rfl
def fH (t:Lh):Value:=match t.ts with
 | []=>.tuple #[.pointer none,.bool false]
 | _::_=>.tuple #[hv t.min.1,.bool true]
theorem jC {t:ai}{r:List ai}:∃u us,(t::r).drop (ak (t::r))=u::us∧u.x=bq (t::r) (ak (t::r))∧(aO (t::r) (ak (t::r))=u.ks.list.reverse∧dB (t::r) (ak (t::r))=u.bs)∧(t::r).drop (ak (t::r)+1)=us∧u∈t::r:=by
 have hl:=dz (l:=t::r) (by simp);have hg:(t::r)[ak (t::r)]?=some (t::r)[ak (t::r)]:=List.getElem?_eq_getElem hl;refine ⟨(t::r)[ak (t::r)],(t::r).drop (ak (t::r)+1),List.drop_eq_getElem_cons hl,?_,?_,rfl,List.getElem_mem hl⟩
 ·unfold bq;rw [hg]
 ·exact ⟨by unfold aO;rw [hg],by unfold dB;rw [hg]⟩
theorem gy (l:List ai):ah l.reverse=ah l:=by
 induction l with
 | nil=>rfl
 | cons t r ih=>rw [List.reverse_cons,iO,ih];simp [ah];omega
theorem gJ:∀ks:ay,ah ks.list=ks.size
 | .nil=>rfl
 | .cons x bs ks r=>by simp only [Gn.ay.list,ah,Gn.ay.size,gJ r,Gn.ai.size]
theorem oh {l:List ai}{t:ai}(ht:t∈l):t.size≤ah l:=rH ht
theorem pR {l:List ai}{i:Nat}(h:i<l.length):ah (aK l i)≤ah l:=by
 have h1:=(eH h).length_eq;rw [aG,List.length_append,aG]at h1;omega
theorem o6 {l:List ai}{i:Nat}(h:i<l.length):ah (aO l i)+ah (aK l i)+(dB l i).length<ah l:=by
 have hbs:dB l i=(l[i]).bs:=by unfold dB;rw [List.getElem?_eq_getElem h]
 have h1:=(eH h).length_eq;have hg:l[i]?=some l[i]:=List.getElem?_eq_getElem h;have hk:aO l i=(l[i]).ks.list.reverse:=by unfold aO;rw [hg]
 rw [aG,List.length_append,aG,Gn.ai.aD]at h1;rw [hk,hbs,gy,gJ];have h9:(l[i]).size=1+(l[i]).bs.length+(l[i]).ks.size:=rfl;omega
theorem gY {l:List ai}(h:fZ l)(i:Nat):fZ (aK l i):=⟨fun u hu=>h.hok u (dY hu),fun u hu=>h.sk u (dY hu),oU h.up⟩
theorem uE {u:ai}(h1:u.hok)(h2:u.sk):fZ u.ks.list.reverse:=⟨fun v hv=>Gn.ay.lK h1.2 v (by simpa using hv),fun v hv=>(Gn.ay.mH h2.2 v (by simpa using hv)).1,iy (Gn.ay.je h2.2)⟩
theorem uX:∀{l:List ai},rises l→dF l=l∧gT l=0
 | [],_=>⟨rfl,rfl⟩
 | [t],_=>⟨rfl,rfl⟩
 | t::u::r,h=>by
  have h1:=(List.pairwise_cons.1 h).1 u (List.mem_cons_self ..);exact ⟨by show dx (u::r) t=_;rw [dx,if_pos h1],by show bg (u::r) t=0;rw [bg,if_pos h1]⟩
theorem uU {l:List ai}{k:Nat}(h:rises (aO l k)):bI ⟨aO l k⟩ ⟨aK l k⟩=⟨cu l k⟩∧aQ ⟨aO l k⟩ ⟨aK l k⟩=dR l k:=by
 obtain ⟨h1,h2⟩:=uX h;refine ⟨?_,?_⟩
 ·show Lh.mk (aP (dF (aO l k)) (dF (aK l k)))=_;rw [h1];rfl
 ·show gT (aO l k)+gT (aK l k)+aI (dF (aO l k)) (dF (aK l k))=_;rw [h1,h2,Nat.zero_add];rfl
theorem uP (l:List ai)(k:Nat):ah (cu l k)=ah (aO l k)+ah (aK l k):=by unfold cu;rw [fe,lQ]
theorem qi:∀(xs:List aN) (l:List ai),dG ⟨l⟩ xs=mX l xs∧dD ⟨l⟩ xs=nA l xs
 | [],_=>⟨rfl,rfl⟩
 | x::r,l=>by
  obtain ⟨h1,h2⟩:=qi r (dQ l x);exact ⟨by show eX l+dG ⟨dQ l x⟩ r=_;rw [h1];rfl,by show eG l+dD ⟨dQ l x⟩ r=_;rw [h2];rfl⟩
theorem xZ (t:ai)(r:List ai)(k:Nat)(hk:k=ak (t::r)):(Lh.mk (t::r)).pop=puts ⟨cu (t::r) k⟩ (dB (t::r) k):=by
 subst hk;have h:=mJ (dB (t::r) (ak (t::r))) ⟨cu (t::r) (ak (t::r))⟩;exact congrArg Lh.mk h.symm
theorem uK (t:ai)(r:List ai)(k:Nat)(hk:k=ak (t::r)):(Lh.mk (t::r)).jf=dR (t::r) k+dG ⟨cu (t::r) k⟩ (dB (t::r) k):=by subst hk;rw [(qi _ _).1];rfl
theorem vI (t:ai)(r:List ai)(k:Nat)(hk:k=ak (t::r)):(Lh.mk (t::r)).jl=dR (t::r) k+dD ⟨cu (t::r) k⟩ (dB (t::r) k):=by subst hk;rw [(qi _ _).2];rfl
theorem qO (mo:Option Nat)(c m:Int)(p:HP)(w:World)(hm:aW w mo c m)(h0:0≤c)(h1:c<1152921504606846976)(h:aA w .nil p):Calls Tryz.prog 331 #[hp p,aF mo] w fun e w'=>e=.returned (fH .nil)∧aW w' mo (c+Lh.nil.bT) m∧Bt mo w w':=by
 have hb1:Below w.heap.size w (w.alloc (.cells #[.pointer p.q,.int .i64 p.n] 257)):=(Below.refl _ w).alloc (Nat.le_refl _) _;have bH:=aB.new w 257 (.pointer p.q) (.int .i64 p.n);have HL:=hdz (show aA _ ⟨[]⟩ p from h.stay hb1);have KK:=hdz ((dL.refl (N:=au) hm).stay hb1);have HB:=hdz bH;have HN:=hdz (af h0 h1);obtain ⟨k,hk⟩:∃k,k=ak ([]:List ai):=⟨_,rfl⟩;have HK:=hdz (show k=ak ([]:List ai)∧k<2147483648∧([]:List ai).drop k=[] from ⟨hk,by rw [hk];decide,by simp⟩);clear h hm hb1 bH h0 h1 hk;go_enter Tryz.func331,Tryz.ntmps331
 go_wp2_with fail
 generalize w.alloc (.cells #[.pointer p.q,.int .i64 p.n] 257)=w1 at *;obtain ⟨a,ha⟩:=aU (w.heap.size);rw [←ha]at HB ⊢;have HA:=hdz (Nat.le_of_eq ha.symm);clear ha;have f0:=HB.out.c0;have f1:=HB.out.c1;have hfd:=jq
 go_region_held3 (fun w'=>w'.cell? ⟨a,0,none⟩=some (.pointer p.q)∧w'.cell? ⟨a,1,none⟩=some (.int .i64 p.n)) (go_keep)
  (first|(go_at_call 159;((with_reducible refine (eB L3.out).mono ?_);rintro e w4 ⟨rfl,hb4⟩;have K4:=hdz (K3.out.stay hb4);have B4:=hdz (B3.out.stay hb4);have f40:=B4.out.c0;have f41:=B4.out.c1;clear hb4))|(go_at_call 162;((with_reducible refine (jT L2.out k HK.out.2.1).mono ?_);rintro e w3 ⟨p3,rfl,ht3,hb3⟩;have K3:=hdz (K2.out.stay hb3);have L3:=hdz (show aA w3 ⟨[]⟩ p3 from HK.out.2.2▸ht3);have B3:=hdz (B2.out.stay hb3);have f30:=B3.out.c0;have f31:=B3.out.c1;clear ht3 hb3))|(go_at_call 336;((with_reducible refine (fK mo c m ⟨[]⟩ p _ KK.out.drew.mt HN.out.1 HN.out.2 (HL.out.stay ((Below.refl _ _).drew))).mono ?_);rintro e w2 ⟨rfl,hm2,hb2⟩;rw [show ak (Lh.mk ([])).ts=k from HK.out.1.symm];have K2:=hdz (KK.out.drew.turn hm2 hb2 ax);have L2:=hdz ((HL.out.stay ((Below.refl _ _).drew)).bt hb2 KK.out.drew.mt);have B2:=hdz ((HB.out.stay ((Below.refl _ _).drew)).bt hb2 KK.out.drew.mt (by decide));have f20:=B2.out.c0;have f21:=B2.out.c1;clear hm2 hb2)))
 go_wp2_with fail
 ((with_reducible refine (kU none none _ xV).mono ?_);rintro e w5 ⟨rfl,hb5⟩);rw [show lG none=.tuple #[.pointer none,.bool false] from rfl];have hk:=K4.out.stay hb5;clear hb5;go_wp2_with fail
 exact bodyPost_ret (v:=fH .nil) (by simp [results,Tryz.results331,go_sem,fH,Lh.nil]) rfl ⟨rfl,hk.mt,hk.bt⟩
theorem lJ (mo:Option Nat)(c m:Int)(t:ai)(r:List ai)(p:HP)(w:World)(hm:aW w mo c m)(h0:0≤c)(h1:c<1152921504606846976)(h:aA w ⟨t::r⟩ p):Calls Tryz.prog 331 #[hp p,aF mo] w fun e w'=>e=.returned (fH ⟨t::r⟩)∧aW w' mo (c+(Lh.mk (t::r)).bT) m∧Bt mo w w':=by
 have hb1:Below w.heap.size w (w.alloc (.cells #[.pointer p.q,.int .i64 p.n] 257)):=(Below.refl _ w).alloc (Nat.le_refl _) _;have bH:=aB.new w 257 (.pointer p.q) (.int .i64 p.n);have HL:=hdz (show aA _ ⟨t::r⟩ p from h.stay hb1);have KK:=hdz ((dL.refl (N:=au) hm).stay hb1);have HB:=hdz bH;have HN:=hdz (af h0 h1);obtain ⟨k,hk⟩:∃k,k=ak (t::r):=⟨_,rfl⟩;obtain ⟨u,us,hu1,hu2, -, -, -⟩:=jC (t:=t) (r:=r);have hlen:=h.len;have hlt:=dz (l:=t::r) (by simp);change (t::r).length<_ at hlen;have HK:=hdz (show k=ak (t::r)∧k<2147483648∧(t::r).drop k=u::us∧fH ⟨t::r⟩=.tuple #[hv u.x,.bool true] from ⟨hk,by omega,by rw [hk];exact hu1,by rw [hu2];rfl⟩);clear hu1 hu2 hlen hlt;clear h hm hb1 bH h0 h1 hk;go_enter Tryz.func331,Tryz.ntmps331
 go_wp2_with fail
 generalize w.alloc (.cells #[.pointer p.q,.int .i64 p.n] 257)=w1 at *;obtain ⟨a,ha⟩:=aU (w.heap.size);rw [←ha]at HB ⊢;have HA:=hdz (Nat.le_of_eq ha.symm);clear ha;have f0:=HB.out.c0;have f1:=HB.out.c1;have hfd:=jq
 go_region_held3 (fun w'=>w'.cell? ⟨a,0,none⟩=some (.pointer p.q)∧w'.cell? ⟨a,1,none⟩=some (.int .i64 p.n)) (go_keep)
  (first|(go_at_call 159;(obtain ⟨fa,hfa,hc⟩:=bN L3.out);((with_reducible refine hc.mono ?_);rintro e w4 ⟨rfl,hb4⟩;have K4:=hdz (K3.out.stay hb4);have T4:=hdz (hfa.stay hb4);have B4:=hdz (B3.out.stay hb4);have f40:=B4.out.c0;have f41:=B4.out.c1;clear hb4 hfa hc))|(go_at_call 162;((with_reducible refine (jT L2.out k HK.out.2.1).mono ?_);rintro e w3 ⟨p3,rfl,ht3,hb3⟩;have K3:=hdz (K2.out.stay hb3);have L3:=hdz (show aA w3 ⟨u::us⟩ p3 from HK.out.2.2.1▸ht3);have B3:=hdz (B2.out.stay hb3);have f30:=B3.out.c0;have f31:=B3.out.c1;clear ht3 hb3))|(go_at_call 336;((with_reducible refine (fK mo c m ⟨t::r⟩ p _ KK.out.drew.mt HN.out.1 HN.out.2 (HL.out.stay ((Below.refl _ _).drew))).mono ?_);rintro e w2 ⟨rfl,hm2,hb2⟩;rw [show ak (Lh.mk (t::r)).ts=k from HK.out.1.symm];have K2:=hdz (KK.out.drew.turn hm2 hb2 ax);have L2:=hdz ((HL.out.stay ((Below.refl _ _).drew)).bt hb2 KK.out.drew.mt);have B2:=hdz ((HB.out.stay ((Below.refl _ _).drew)).bt hb2 KK.out.drew.mt (by decide));have f20:=B2.out.c0;have f21:=B2.out.c1;clear hm2 hb2)))
 go_wp2_with fail
 ((with_reducible refine (kU fa (some u) _ T4.out).mono ?_);rintro e w5 ⟨rfl,hb5⟩);obtain ⟨y,ubs,uks⟩:=u;rw [show lG (some ⟨y,ubs,uks⟩)=.tuple #[hv y,.bool true] from rfl];have hk:=K4.out.stay hb5;clear hb5;go_wp2_with fail
 exact bodyPost_ret (v := .tuple #[hv y,.bool true]) (by simp [results,Tryz.results331,go_sem]) rfl ⟨by rw [HK.out.2.2.2],hk.mt,hk.bt⟩
theorem iX (mo:Option Nat)(c m:Int)(t:Lh)(p:HP)(w:World)(hm:aW w mo c m)(h0:0≤c)(h1:c<1152921504606846976)(h:aA w t p):Calls Tryz.prog 331 #[hp p,aF mo] w fun e w'=>e=.returned (fH t)∧aW w' mo (c+t.bT) m∧Bt mo w w':=by
 obtain ⟨ts⟩:=t
 cases ts with
 | nil=>exact qO mo c m p w hm h0 h1 h
 | cons t r=>exact lJ mo c m t r p w hm h0 h1 h
def gP (mo:Option Nat)(c m:Int)(t:Lh)(is:Bool)(w:World)(e:Ending)(w':World):Prop:=∃p:HP,e=.returned (.tuple #[.agg #[.pointer p.q,.int .i64 p.n],.bool is])∧aA w' t p∧aW w' mo c m∧Bt mo w w'
theorem kV (mo:Option Nat)(c m:Int)(p:HP)(w:World)(hm:aW w mo c m)(h0:0≤c)(h1:c<144115188075855872)(h2:0≤m)(h3:m<144115188075855872)(h:aA w .nil p):Calls Tryz.prog 332 #[hp p,aF mo] w (gP mo c m .nil false w):=by
 have hb1:Below w.heap.size w ((w.alloc (.cells #[.pointer p.q,.int .i64 p.n] 257)).alloc (.cells #[.pointer none,.int .i64 0] 257)):=((Below.refl _ w).alloc (Nat.le_refl _) _).alloc (by simp) _;have bH:=(aB.new w 257 (.pointer p.q) (.int .i64 p.n)).alloc (.cells #[.pointer none,.int .i64 0] 257);have bE:=aB.new (w.alloc (.cells #[.pointer p.q,.int .i64 p.n] 257)) 257 (.pointer none) (.int .i64 0);simp only [World.size_alloc]at bE;have HL:=hdz (show aA _ ⟨[]⟩ p from h.stay hb1);have KK:=hdz ((dL.refl (N:=au) hm).stay hb1);have HB:=hdz (af bH bE);have HN:=hdz (af h0 (af h1 (af h2 h3)));obtain ⟨k,hk⟩:∃k,k=ak ([]:List ai):=⟨_,rfl⟩;have HK:=hdz (show k=ak ([]:List ai)∧k<2147483648∧([]:List ai).drop k=[] from ⟨hk,by rw [hk];decide,by simp⟩);clear h hm hb1 bH bE h0 h1 h2 h3 hk;go_enter Tryz.func332,Tryz.ntmps332
 go_wp2_with fail
 generalize (w.alloc (.cells #[.pointer p.q,.int .i64 p.n] 257)).alloc (.cells #[.pointer none,.int .i64 0] 257)=w1 at *;obtain ⟨a,ha⟩:=aU (w.heap.size);rw [←ha]at HB ⊢;have HA:=hdz (Nat.le_of_eq ha.symm);clear ha;((with_reducible refine (fK mo c m ⟨[]⟩ p _ KK.out.mt HN.out.1 (by have:=HN.out;omega) HL.out).mono ?_);rintro e w2 ⟨rfl,hm2,hb2⟩);rw [show ak (Lh.mk ([])).ts=k from HK.out.1.symm];have K2:=hdz (KK.out.turn hm2 hb2 ax);have L2:=hdz (HL.out.bt hb2 KK.out.mt);have B2:=hdz (af (HB.out.1.bt hb2 KK.out.mt (by decide)) (HB.out.2.bt hb2 KK.out.mt (by decide)));have f0:=B2.out.1.c0;have f1:=B2.out.1.c1;clear hm2 hb2 HL KK HB;go_wp2_with fail
 ((with_reducible refine (jT L2.out k HK.out.2.1).mono ?_);rintro e w3 ⟨p3,rfl,ht3,hb3⟩);have hb4:Below w2.heap.size w2 (w3.alloc (.cells #[.pointer p3.q,.int .i64 p3.n] 255)):=hb3.alloc hb3.size (.cells #[.pointer p3.q,.int .i64 p3.n] 255);have bV:=aB.new w3 255 (.pointer p3.q) (.int .i64 p3.n);have L3:=hdz (show aA (w3.alloc (.cells #[.pointer p3.q,.int .i64 p3.n] 255)) ⟨[]⟩ p3 from aA.stay (show aA w3 ⟨[]⟩ p3 from HK.out.2.2▸ht3) (bG _));have L2b:=hdz (L2.out.stay hb4);have K3:=hdz (K2.out.stay hb4);have HVL:=hdz (Nat.lt_of_lt_of_le B2.out.2.lt hb3.size);have B3:=hdz (af (B2.out.1.stay hb4) (af (B2.out.2.stay hb4) bV));clear ht3 hb3 hb4 bV f0 f1 K2 L2 B2;go_wp2_with fail
 generalize w3.alloc (.cells #[.pointer p3.q,.int .i64 p3.n] 255)=w4 at *;obtain ⟨v,hv⟩:=aU (w3.heap.size);rw [←hv]at B3 HVL ⊢;clear hv;((with_reducible refine (eB L3.out).mono ?_);rintro e w5 ⟨rfl,hb5⟩);have K5:=hdz (K3.out.stay hb5);have B5:=hdz (B3.out.2.1.stay hb5);have z0:=B5.out.z0;have z1:=B5.out.z1;have r0:=B5.out.c0;have r1:=B5.out.c1;have s0:=(B5.out.set (.pointer none) (.int .i64 0)).c0;have s1:=(B5.out.set (.pointer none) (.int .i64 0)).c1;clear hb5;go_wp2_with fail
 have hk:=K5.out.eY B5.out aj (by decide) (by have:=HA.out;omega) (.pointer none) (.int .i64 0);exact bodyPost_ret (v := .tuple #[hp ⟨none,0⟩,.bool false]) (by simp [results,Tryz.results332,go_sem,s0,s1]) rfl ⟨⟨none,0⟩,rfl,aA.nil _,by simpa [Lh.bT,Lh.nil] using hk.mt,hk.bt⟩
theorem kX (mo:Option Nat)(c m:Int)(t:ai)(r:List ai)(p:HP)(w:World)(hs27:ah (t::r)<134217728)(hm:aW w mo c m)(h0:0≤c)(h1:c<144115188075855872)(h2:0≤m)(h3:m<144115188075855872)(h:aA w ⟨t::r⟩ p):Calls Tryz.prog 332 #[hp p,aF mo] w (gP mo (c+((Lh.mk (t::r)).jf+(Lh.mk (t::r)).bT:Nat)) (m+(Lh.mk (t::r)).jl) (Lh.mk (t::r)).pop true w):=by
 have hb1:Below w.heap.size w ((w.alloc (.cells #[.pointer p.q,.int .i64 p.n] 257)).alloc (.cells #[.pointer none,.int .i64 0] 257)):=((Below.refl _ w).alloc (Nat.le_refl _) _).alloc (by simp) _;have bH:=(aB.new w 257 (.pointer p.q) (.int .i64 p.n)).alloc (.cells #[.pointer none,.int .i64 0] 257);have bE:=aB.new (w.alloc (.cells #[.pointer p.q,.int .i64 p.n] 257)) 257 (.pointer none) (.int .i64 0);simp only [World.size_alloc]at bE;have HL:=hdz (show aA _ ⟨t::r⟩ p from h.stay hb1);have KK:=hdz ((dL.refl (N:=au) hm).stay hb1);have HB:=hdz (af bH bE);have HN:=hdz (af h0 (af h1 (af h2 h3)));obtain ⟨k,hk⟩:∃k,k=ak (t::r):=⟨_,rfl⟩;obtain ⟨u,us,hu1,hu2,hu3,hu4,hu5⟩:=jC (t:=t) (r:=r);have hlen:=h.len;have hsm:=h.small;have hok:fZ (t::r):=h.right;have hlt:=dz (l:=t::r) (by simp);have htl:(Lh.mk (t::r)).bT≤(Lh.mk (t::r)).size:=kz _;have hpl:=lN (Lh.mk (t::r));change (t::r).length<_ at hlen;change ah (t::r)<_ at hsm;have hus:=oh hu5;have hrs:=pR hlt;have HK:=hdz (show k=ak (t::r)∧k<2147483648∧(t::r).drop k=u::us from ⟨hk,by omega,by rw [hk];exact hu1⟩);have HU:=hdz (show (aO (t::r) k=u.ks.list.reverse∧dB (t::r) k=u.bs)∧(t::r).take k++us=aK (t::r) k∧k≤(t::r).length∧u.size≤ah (t::r)∧ah (aK (t::r) k)≤ah (t::r)∧(t::r).length<268435456∧ah (t::r)<268435456 from ⟨hk▸hu3,by unfold aK;rw [hk,hu4],by omega,hus,hk▸hrs,hlen,hsm⟩);have HPS:=hdz (show ah (aO (t::r) k)+ah (aK (t::r) k)+u.bs.length<134217728 from by have h8:=o6 hlt;rw [←hk]at h8;rw [←hk]at hu3;rw [hu3.2]at h8;omega);have HO:=hdz (af hok (af (hok.hok u hu5) (hok.sk u hu5)));have HPO:=hdz (show (Lh.mk (t::r)).pop=puts ⟨cu (t::r) k⟩ u.bs∧(Lh.mk (t::r)).jf=dR (t::r) k+dG ⟨cu (t::r) k⟩ u.bs∧(Lh.mk (t::r)).jl=dR (t::r) k+dD ⟨cu (t::r) k⟩ u.bs∧(Lh.mk (t::r)).bT<268435456∧(Lh.mk (t::r)).jf<536870912∧(Lh.mk (t::r)).jl<536870912 from ⟨by rw [←hu3.2,←hk];exact xZ t r k hk,by rw [←hu3.2,←hk];exact uK t r k hk,by rw [←hu3.2,←hk];exact vI t r k hk,Nat.lt_of_le_of_lt htl hsm,by have h8:(Lh.mk (t::r)).size=ah (t::r):=rfl;omega,by have h8:(Lh.mk (t::r)).size=ah (t::r):=rfl;omega⟩);clear hu1 hu2 hu3 hu4 hu5 hlen hlt hsm hok htl hpl hus hrs;clear h hm hb1 bH bE h0 h1 h2 h3 hk;go_enter Tryz.func332,Tryz.ntmps332
 go_wp2_with fail
 generalize (w.alloc (.cells #[.pointer p.q,.int .i64 p.n] 257)).alloc (.cells #[.pointer none,.int .i64 0] 257)=w1 at *;obtain ⟨a,ha⟩:=aU (w.heap.size);rw [←ha]at HB ⊢;have HA:=hdz (Nat.le_of_eq ha.symm);clear ha;((with_reducible refine (fK mo c m ⟨t::r⟩ p _ KK.out.mt HN.out.1 (by have:=HN.out;omega) HL.out).mono ?_);rintro e w2 ⟨rfl,hm2,hb2⟩);rw [show ak (Lh.mk (t::r)).ts=k from HK.out.1.symm];have K2:=hdz (KK.out.turn hm2 hb2 ax);have L2:=hdz (HL.out.bt hb2 KK.out.mt);have B2:=hdz (af (HB.out.1.bt hb2 KK.out.mt (by decide)) (HB.out.2.bt hb2 KK.out.mt (by decide)));have f0:=B2.out.1.c0;have f1:=B2.out.1.c1;clear hm2 hb2 HL KK HB;go_wp2_with fail
 ((with_reducible refine (jT L2.out k HK.out.2.1).mono ?_);rintro e w3 ⟨p3,rfl,ht3,hb3⟩);have hb4:Below w2.heap.size w2 (w3.alloc (.cells #[.pointer p3.q,.int .i64 p3.n] 255)):=hb3.alloc hb3.size (.cells #[.pointer p3.q,.int .i64 p3.n] 255);have bV:=aB.new w3 255 (.pointer p3.q) (.int .i64 p3.n);have L3:=hdz (show aA (w3.alloc (.cells #[.pointer p3.q,.int .i64 p3.n] 255)) ⟨u::us⟩ p3 from aA.stay (show aA w3 ⟨u::us⟩ p3 from HK.out.2.2▸ht3) (bG _));have L2b:=hdz (L2.out.stay hb4);have K3:=hdz (K2.out.stay hb4);have HVL:=hdz (Nat.lt_of_lt_of_le B2.out.2.lt hb3.size);have B3:=hdz (af (B2.out.1.stay hb4) (af (B2.out.2.stay hb4) bV));clear ht3 hb3 hb4 bV f0 f1 K2 L2 B2;go_wp2_with fail
 generalize w3.alloc (.cells #[.pointer p3.q,.int .i64 p3.n] 255)=w4 at *;obtain ⟨v,hv⟩:=aU (w3.heap.size);rw [←hv]at B3 HVL ⊢;clear hv;obtain ⟨fa,hfa,hc⟩:=bN L3.out;have HC:=hdz hc;have TF:=hdz hfa;clear hc hfa;((with_reducible refine HC.out.mono ?_);rintro e w5 ⟨rfl,hb5⟩);have K5:=hdz (K3.out.stay hb5);have B5:=hdz (af (B3.out.1.stay hb5) (af (B3.out.2.1.stay hb5) (B3.out.2.2.stay hb5)));have L5:=hdz (af (show aA w5 ⟨t::r⟩ p from L2b.out.stay hb5) (af (L3.out.stay hb5) (TF.out.stay hb5)));clear hb5 HC TF K3 B3 L3 L2b;go_wp2_with fail
 refine j6 (R:=fun x x' w' => ∃(u27 u28 u29 u30 u31 u32 u33 u34 u35:Value) (g:Nat) (p9:HP),x'=((((((((((x.put (some 27) u27).put (some 28) u28).put (some 29) u29).put (some 30) u30).put (some 31) u31).put (some 32) u32).put (some 33) u33).put (some 34) u34).put (some 35) u35).put (some 10) (.pointer (some ⟨g,0,none⟩)))∧Below w5.heap.size w5 w'∧w5.heap.size≤g∧aB w' g 255 (.pointer p9.q) (.int .i64 p9.n)∧aA w' ⟨aK (t::r) k⟩ p9) ?_ ?_
 ·have HS:=hdz (fun (w':World) (hz:Below w5.heap.size w5 w')=>(show w'.cell? ⟨a,0,none⟩=some (.pointer p.q)∧w'.cell? ⟨a,1,none⟩=some (.int .i64 p.n)∧w'.cell? ⟨v,0,none⟩=some (.pointer p3.q)∧w'.cell? ⟨v,1,none⟩=some (.int .i64 p3.n) from ⟨(B5.out.1.stay hz).c0,(B5.out.1.stay hz).c1,(B5.out.2.2.stay hz).c0,(B5.out.2.2.stay hz).c1⟩));have hB:=(Below.refl w5.heap.size w5).drew;have IE:=L5.out.1.stay ((Below.refl _ _).drew);have Iq:=L5.out.2.1.stay ((Below.refl _ _).drew);have hSZ:=hB.size;refine wp_region_noPanic ?_;refine wp_region_held_drew (S:=fun w'=>w'.cell? ⟨a,0,none⟩=some (.pointer p.q)∧w'.cell? ⟨a,1,none⟩=some (.int .i64 p.n)∧w'.cell? ⟨v,0,none⟩=some (.pointer p3.q)∧w'.cell? ⟨v,1,none⟩=some (.int .i64 p3.n)) (by kernel_rfl) (HS.out _ hB) (fun hH=>?_);generalize hwd:w5.drew=wd at *;clear hwd;refine tk 0 hH ?_;try simp only [aZ]
  refine tk 1 hH ?_;try simp only [aZ]
  refine tk 3 hH ?_;try simp only [aZ]
  refine tk 6 hH ?_;try simp only [aZ]
  refine uw 2 9 (fun K hK=>?_) (fun K hK=>?_)
  ·go_simp;go_at_call 247
   have hmt:aW wd (none:Option Nat) 0 0:=trivial;(with_reducible refine (pQ IE hmt).mono ?_);rintro e w6 ⟨A,n6,c6,rfl,hr, -,hb⟩;replace Iq:=Iq.stay hb;replace hB:=hB.trans (hb.mono hSZ);replace hSZ:=Nat.le_trans hSZ hb.size;clear hb IE;have c1:k≤n6:=by have:=hr.len;have:=HU.out;omega
   have c2:k≤c6:=Nat.le_trans c1 hr.cap;have c3:(0:Int)≤(k:Int):=by omega
   have c4:(k:Int)≤(c6:Int):=by omega
   have c5:(k:Int)≤(n6:Int):=by omega
   refine hK.out _ _ ?_ (fun hH2=>?_)
   ·exact HS.out _ hB
   clear hK K hH;have hH:=hH2;clear hH2;try simp only [aZ]
   refine tk 4 hH ?_;try simp only [aZ]
   refine uw 5 9 (fun K hK=>?_) (fun K hK=>?_)
   ·go_simp;go_at_call 342
    obtain ⟨ps,hr1,hr2⟩:=hr.take k;(with_reducible refine (xu hr1 hr2 (by rw [List.length_take];have:=HU.out;omega) (Nat.lt_of_le_of_lt (cO _ _) HU.out.2.2.2.2.2.2) (jw HO.out.1 (List.take_sublist k _))).mono ?_);rintro e w7 ⟨p7,rfl,Ir,hb⟩;replace Iq:=Iq.stay hb;replace hB:=hB.trans (hb.mono hSZ);replace hSZ:=Nat.le_trans hSZ hb.size;clear hb hr hr1 hr2;refine hK.out _ _ ?_ (fun hH2=>?_)
    ·exact HS.out _ hB
    clear hK K hH;have hH:=hH2;clear hH2;try simp only [aZ]
    refine uw 7 9 (fun K hK=>?_) (fun K hK=>?_)
    ·go_simp;go_at_call 160
     (with_reducible refine (eZ Iq).mono ?_);rintro e w8 ⟨p8,rfl,Iw,hb⟩;replace Ir:=Ir.stay hb;replace Iw:aA w8 ⟨us⟩ p8:=Iw;replace hB:=hB.trans (hb.mono hSZ);replace hSZ:=Nat.le_trans hSZ hb.size;clear hb Iq;refine hK.out _ _ ?_ (fun hH2=>?_)
     ·exact HS.out _ hB
     clear hK K hH;have hH:=hH2;clear hH2;try simp only [aZ]
     refine uw 8 9 (fun K hK=>?_) (fun K hK=>?_)
     focus
      go_simp;go_at_call 326
      (with_reducible refine (jB Ir Iw (by rw [HU.out.2.1];have:=HU.out;omega) (by rw [HU.out.2.1];exact gY HO.out.1 k)).mono ?_);rintro e w9 ⟨p9,rfl,IA,hb⟩;rw [HU.out.2.1]at IA;replace hB:=hB.trans (hb.mono hSZ);replace hSZ:=Nat.le_trans hSZ hb.size;clear hb Ir Iw;refine hK.out _ _ ?_ (fun hH2=>?_)
      ·exact HS.out _ hB
      clear hK K hH;have hH:=hH2;clear hH2;try simp only [aZ]
      refine eD 9 (fun K hK=>?_);go_simp;refine hK.out _ _ ?_ (fun hH2=>?_)
      ·exact HS.out _ (hB.alloc hSZ _)
      clear hK K hH;have hH:=hH2;clear hH2;have hv:=aB.new w9 255 (.pointer none) (.int .i64 0);have hV:w5.heap.size≤w9.heap.size:=hSZ;replace IA:=IA.stay (bG (.cells #[.pointer none,.int .i64 0] 255));replace hB:=hB.alloc hSZ (.cells #[.pointer none,.int .i64 0] 255);replace hSZ:=Nat.le_trans hSZ (show w9.heap.size≤(w9.alloc (.cells #[.pointer none,.int .i64 0] 255)).heap.size by simp);obtain ⟨g,hge⟩:=aU (w9.heap.size);rw [←hge]at hv hV ⊢;clear hge;generalize w9.alloc (.cells #[.pointer none,.int .i64 0] 255)=wA at *
     rotate_left
     focus
      go_simp;refine hK.out _ _ ?_ (fun hH2=>?_)
      ·exact HS.out _ (hB.alloc hSZ _)
      clear hK K hH;have hH:=hH2;clear hH2;have hv:=aB.new w8 255 (.pointer none) (.int .i64 0);have hV:w5.heap.size≤w8.heap.size:=hSZ;replace Ir:=Ir.stay (bG (.cells #[.pointer none,.int .i64 0] 255));replace Iw:=Iw.stay (bG (.cells #[.pointer none,.int .i64 0] 255));replace hB:=hB.alloc hSZ (.cells #[.pointer none,.int .i64 0] 255);replace hSZ:=Nat.le_trans hSZ (show w8.heap.size≤(w8.alloc (.cells #[.pointer none,.int .i64 0] 255)).heap.size by simp);obtain ⟨g,hge⟩:=aU (w8.heap.size);rw [←hge]at hv hV ⊢;clear hge;generalize w8.alloc (.cells #[.pointer none,.int .i64 0] 255)=wA at *;try simp only [aZ]
      refine eD 8 (fun K hK=>?_);go_simp;go_at_call 326
      (with_reducible refine (jB Ir Iw (by rw [HU.out.2.1];have:=HU.out;omega) (by rw [HU.out.2.1];exact gY HO.out.1 k)).mono ?_);rintro e w9 ⟨p9,rfl,IA,hb⟩;rw [HU.out.2.1]at IA;replace hB:=hB.trans (hb.mono hSZ);replace hSZ:=Nat.le_trans hSZ hb.size;replace hv:=hv.stay hb;clear hb Ir Iw;refine hK.out _ _ ?_ (fun hH2=>?_)
      ·exact HS.out _ hB
      clear hK K hH;have hH:=hH2;clear hH2
     rotate_left
     all_goals
      try simp only [aZ]
      have vc0:=hv.c0;have vc1:=hv.c1;have vz0:=hv.z0;have vz1:=hv.z1;refine eD 10 (fun K hK=>?_);go_simp;refine hK.out _ _ ?_ (fun hH2=>?_)
      ·exact HS.out _ (aL hB hV _ _)
      clear hK K hH;have hH:=hH2;clear hH2;have hv2:=hv.set (.pointer p9.q) (.int .i64 p9.n);have Io:=IA.set2 hv dh (.pointer p9.q) (.int .i64 p9.n);have hB2:=aL hB hV (.pointer p9.q) (.int .i64 p9.n);clear vc0 vc1 vz0 vz1;try simp only [aZ]
      refine dn ?_;clear hH;exact ⟨rfl,_,_,_,_,_,_,_,_,_,g,p9,by (try simp only [aZ]);rfl,hB2,hV,hv2,Io⟩
    ·go_simp;refine hK.out _ _ ?_ (fun hH2=>?_)
     ·exact HS.out _ (hB.alloc hSZ _)
     clear hK K hH;have hH:=hH2;clear hH2;have hv:=aB.new w7 255 (.pointer none) (.int .i64 0);have hV:w5.heap.size≤w7.heap.size:=hSZ;replace Ir:=Ir.stay (bG (.cells #[.pointer none,.int .i64 0] 255));replace Iq:=Iq.stay (bG (.cells #[.pointer none,.int .i64 0] 255));replace hB:=hB.alloc hSZ (.cells #[.pointer none,.int .i64 0] 255);replace hSZ:=Nat.le_trans hSZ (show w7.heap.size≤(w7.alloc (.cells #[.pointer none,.int .i64 0] 255)).heap.size by simp);obtain ⟨g,hge⟩:=aU (w7.heap.size);rw [←hge]at hv hV ⊢;clear hge;generalize w7.alloc (.cells #[.pointer none,.int .i64 0] 255)=wA at *;try simp only [aZ]
     refine eD 7 (fun K hK=>?_);go_simp;go_at_call 160
     (with_reducible refine (eZ Iq).mono ?_);rintro e w8 ⟨p8,rfl,Iw,hb⟩;replace Ir:=Ir.stay hb;replace Iw:aA w8 ⟨us⟩ p8:=Iw;replace hB:=hB.trans (hb.mono hSZ);replace hSZ:=Nat.le_trans hSZ hb.size;replace hv:=hv.stay hb;clear hb Iq;refine hK.out _ _ ?_ (fun hH2=>?_)
     ·exact HS.out _ hB
     clear hK K hH;have hH:=hH2;clear hH2;try simp only [aZ]
     refine eD 8 (fun K hK=>?_);go_simp;go_at_call 326
     (with_reducible refine (jB Ir Iw (by rw [HU.out.2.1];have:=HU.out;omega) (by rw [HU.out.2.1];exact gY HO.out.1 k)).mono ?_);rintro e w9 ⟨p9,rfl,IA,hb⟩;rw [HU.out.2.1]at IA;replace hB:=hB.trans (hb.mono hSZ);replace hSZ:=Nat.le_trans hSZ hb.size;replace hv:=hv.stay hb;clear hb Ir Iw;refine hK.out _ _ ?_ (fun hH2=>?_)
     ·exact HS.out _ hB
     clear hK K hH;have hH:=hH2;clear hH2;try simp only [aZ]
     have vc0:=hv.c0;have vc1:=hv.c1;have vz0:=hv.z0;have vz1:=hv.z1;refine eD 10 (fun K hK=>?_);go_simp;refine hK.out _ _ ?_ (fun hH2=>?_)
     ·exact HS.out _ (aL hB hV _ _)
     clear hK K hH;have hH:=hH2;clear hH2;have hv2:=hv.set (.pointer p9.q) (.int .i64 p9.n);have Io:=IA.set2 hv dh (.pointer p9.q) (.int .i64 p9.n);have hB2:=aL hB hV (.pointer p9.q) (.int .i64 p9.n);clear vc0 vc1 vz0 vz1;try simp only [aZ]
     refine dn ?_;clear hH;exact ⟨rfl,_,_,_,_,_,_,_,_,_,g,p9,by (try simp only [aZ]);rfl,hB2,hV,hv2,Io⟩
   ·go_simp;refine hK.out _ _ ?_ (fun hH2=>?_)
    ·exact HS.out _ (hB.alloc hSZ _)
    clear hK K hH;have hH:=hH2;clear hH2;have hv:=aB.new w6 255 (.pointer none) (.int .i64 0);have hV:w5.heap.size≤w6.heap.size:=hSZ;replace hr:=hr.stay (bG (.cells #[.pointer none,.int .i64 0] 255));replace Iq:=Iq.stay (bG (.cells #[.pointer none,.int .i64 0] 255));replace hB:=hB.alloc hSZ (.cells #[.pointer none,.int .i64 0] 255);replace hSZ:=Nat.le_trans hSZ (show w6.heap.size≤(w6.alloc (.cells #[.pointer none,.int .i64 0] 255)).heap.size by simp);obtain ⟨g,hge⟩:=aU (w6.heap.size);rw [←hge]at hv hV ⊢;clear hge;generalize w6.alloc (.cells #[.pointer none,.int .i64 0] 255)=wA at *;try simp only [aZ]
    refine eD 5 (fun K hK=>?_);go_simp;go_at_call 342
    obtain ⟨ps,hr1,hr2⟩:=hr.take k;(with_reducible refine (xu hr1 hr2 (by rw [List.length_take];have:=HU.out;omega) (Nat.lt_of_le_of_lt (cO _ _) HU.out.2.2.2.2.2.2) (jw HO.out.1 (List.take_sublist k _))).mono ?_);rintro e w7 ⟨p7,rfl,Ir,hb⟩;replace Iq:=Iq.stay hb;replace hB:=hB.trans (hb.mono hSZ);replace hSZ:=Nat.le_trans hSZ hb.size;replace hv:=hv.stay hb;clear hb hr hr1 hr2;refine hK.out _ _ ?_ (fun hH2=>?_)
    ·exact HS.out _ hB
    clear hK K hH;have hH:=hH2;clear hH2;try simp only [aZ]
    refine eD 7 (fun K hK=>?_);go_simp;go_at_call 160
    (with_reducible refine (eZ Iq).mono ?_);rintro e w8 ⟨p8,rfl,Iw,hb⟩;replace Ir:=Ir.stay hb;replace Iw:aA w8 ⟨us⟩ p8:=Iw;replace hB:=hB.trans (hb.mono hSZ);replace hSZ:=Nat.le_trans hSZ hb.size;replace hv:=hv.stay hb;clear hb Iq;refine hK.out _ _ ?_ (fun hH2=>?_)
    ·exact HS.out _ hB
    clear hK K hH;have hH:=hH2;clear hH2;try simp only [aZ]
    refine eD 8 (fun K hK=>?_);go_simp;go_at_call 326
    (with_reducible refine (jB Ir Iw (by rw [HU.out.2.1];have:=HU.out;omega) (by rw [HU.out.2.1];exact gY HO.out.1 k)).mono ?_);rintro e w9 ⟨p9,rfl,IA,hb⟩;rw [HU.out.2.1]at IA;replace hB:=hB.trans (hb.mono hSZ);replace hSZ:=Nat.le_trans hSZ hb.size;replace hv:=hv.stay hb;clear hb Ir Iw;refine hK.out _ _ ?_ (fun hH2=>?_)
    ·exact HS.out _ hB
    clear hK K hH;have hH:=hH2;clear hH2;try simp only [aZ]
    have vc0:=hv.c0;have vc1:=hv.c1;have vz0:=hv.z0;have vz1:=hv.z1;refine eD 10 (fun K hK=>?_);go_simp;refine hK.out _ _ ?_ (fun hH2=>?_)
    ·exact HS.out _ (aL hB hV _ _)
    clear hK K hH;have hH:=hH2;clear hH2;have hv2:=hv.set (.pointer p9.q) (.int .i64 p9.n);have Io:=IA.set2 hv dh (.pointer p9.q) (.int .i64 p9.n);have hB2:=aL hB hV (.pointer p9.q) (.int .i64 p9.n);clear vc0 vc1 vz0 vz1;try simp only [aZ]
    refine dn ?_;clear hH;exact ⟨rfl,_,_,_,_,_,_,_,_,_,g,p9,by (try simp only [aZ]);rfl,hB2,hV,hv2,Io⟩
  ·go_simp;refine hK.out _ _ ?_ (fun hH2=>?_)
   ·exact HS.out _ (hB.alloc hSZ _)
   clear hK K hH;have hH:=hH2;clear hH2;have hv:=aB.new wd 255 (.pointer none) (.int .i64 0);have hV:w5.heap.size≤wd.heap.size:=hSZ;replace IE:=IE.stay (bG (.cells #[.pointer none,.int .i64 0] 255));replace Iq:=Iq.stay (bG (.cells #[.pointer none,.int .i64 0] 255));replace hB:=hB.alloc hSZ (.cells #[.pointer none,.int .i64 0] 255);replace hSZ:=Nat.le_trans hSZ (show wd.heap.size≤(wd.alloc (.cells #[.pointer none,.int .i64 0] 255)).heap.size by simp);obtain ⟨g,hge⟩:=aU (wd.heap.size);rw [←hge]at hv hV ⊢;clear hge;generalize wd.alloc (.cells #[.pointer none,.int .i64 0] 255)=wA at *;try simp only [aZ]
   refine eD 2 (fun K hK=>?_);go_simp;go_at_call 247
   have hmt:aW wA (none:Option Nat) 0 0:=trivial;(with_reducible refine (pQ IE hmt).mono ?_);rintro e w6 ⟨A,n6,c6,rfl,hr, -,hb⟩;replace Iq:=Iq.stay hb;replace hB:=hB.trans (hb.mono hSZ);replace hSZ:=Nat.le_trans hSZ hb.size;replace hv:=hv.stay hb;clear hb IE;have c1:k≤n6:=by have:=hr.len;have:=HU.out;omega
   have c2:k≤c6:=Nat.le_trans c1 hr.cap;have c3:(0:Int)≤(k:Int):=by omega
   have c4:(k:Int)≤(c6:Int):=by omega
   have c5:(k:Int)≤(n6:Int):=by omega
   refine hK.out _ _ ?_ (fun hH2=>?_)
   ·exact HS.out _ hB
   clear hK K hH;have hH:=hH2;clear hH2;try simp only [aZ]
   refine tk 4 hH ?_;try simp only [aZ]
   refine eD 5 (fun K hK=>?_);go_simp;go_at_call 342
   obtain ⟨ps,hr1,hr2⟩:=hr.take k;(with_reducible refine (xu hr1 hr2 (by rw [List.length_take];have:=HU.out;omega) (Nat.lt_of_le_of_lt (cO _ _) HU.out.2.2.2.2.2.2) (jw HO.out.1 (List.take_sublist k _))).mono ?_);rintro e w7 ⟨p7,rfl,Ir,hb⟩;replace Iq:=Iq.stay hb;replace hB:=hB.trans (hb.mono hSZ);replace hSZ:=Nat.le_trans hSZ hb.size;replace hv:=hv.stay hb;clear hb hr hr1 hr2;refine hK.out _ _ ?_ (fun hH2=>?_)
   ·exact HS.out _ hB
   clear hK K hH;have hH:=hH2;clear hH2;try simp only [aZ]
   refine eD 7 (fun K hK=>?_);go_simp;go_at_call 160
   (with_reducible refine (eZ Iq).mono ?_);rintro e w8 ⟨p8,rfl,Iw,hb⟩;replace Ir:=Ir.stay hb;replace Iw:aA w8 ⟨us⟩ p8:=Iw;replace hB:=hB.trans (hb.mono hSZ);replace hSZ:=Nat.le_trans hSZ hb.size;replace hv:=hv.stay hb;clear hb Iq;refine hK.out _ _ ?_ (fun hH2=>?_)
   ·exact HS.out _ hB
   clear hK K hH;have hH:=hH2;clear hH2;try simp only [aZ]
   refine eD 8 (fun K hK=>?_);go_simp;go_at_call 326
   (with_reducible refine (jB Ir Iw (by rw [HU.out.2.1];have:=HU.out;omega) (by rw [HU.out.2.1];exact gY HO.out.1 k)).mono ?_);rintro e w9 ⟨p9,rfl,IA,hb⟩;rw [HU.out.2.1]at IA;replace hB:=hB.trans (hb.mono hSZ);replace hSZ:=Nat.le_trans hSZ hb.size;replace hv:=hv.stay hb;clear hb Ir Iw;refine hK.out _ _ ?_ (fun hH2=>?_)
   ·exact HS.out _ hB
   clear hK K hH;have hH:=hH2;clear hH2;try simp only [aZ]
   have vc0:=hv.c0;have vc1:=hv.c1;have vz0:=hv.z0;have vz1:=hv.z1;refine eD 10 (fun K hK=>?_);go_simp;refine hK.out _ _ ?_ (fun hH2=>?_)
   ·exact HS.out _ (aL hB hV _ _)
   clear hK K hH;have hH:=hH2;clear hH2;have hv2:=hv.set (.pointer p9.q) (.int .i64 p9.n);have Io:=IA.set2 hv dh (.pointer p9.q) (.int .i64 p9.n);have hB2:=aL hB hV (.pointer p9.q) (.int .i64 p9.n);clear vc0 vc1 vz0 vz1;try simp only [aZ]
   refine dn ?_;clear hH;exact ⟨rfl,_,_,_,_,_,_,_,_,_,g,p9,by (try simp only [aZ]);rfl,hB2,hV,hv2,Io⟩
 rintro x' w6 ⟨u27,u28,u29,u30,u31,u32,u33,u34,u35,g,p9,rfl,hB,hG,hg,ht⟩;try simp only [aZ]
 have K6:=hdz (K5.out.stay hB);have B6:=hdz (af (B5.out.2.1.stay hB) hg);have L6:=hdz (af ht (L5.out.2.2.stay hB));clear hB hG hg ht K5 B5 L5;go_wp2_with fail
 ((with_reducible refine (uI fa (some u) _ L6.out.2 (by have:=HU.out;simp only [bF];omega)).mono ?_);rintro e w7 ⟨v7,ps,rfl,hk7,hown,hb⟩);obtain ⟨A7,c7,rfl,hr7,hc7, -, -⟩:=hown.form;have hts:=(iG.ts hk7).kp (bO.below hb);have K7:=hdz (K6.out.stay hb);have B7:=hdz (af (B6.out.1.stay hb) (B6.out.2.stay hb));have L7:=hdz (L6.out.1.stay hb);have HR7:=hdz (af (show Row1 Lt.one w7 A7 ps from hr7) hts);have hpl:=hts.length;have hkl:u.ks.list.length≤u.size:=by rw [Gn.ay.lF];have:=u.wz;exact Nat.le_of_lt this
 obtain ⟨n7,hn7⟩:=aU (ps.length);rw [←hn7];have HN7:=hdz (show n7=ps.length∧n7<268435456 from ⟨hn7,by have:=HU.out;have h9:ps.length=u.ks.list.length:=hpl;omega⟩);have L7b:=hdz (L6.out.2.stay hb);clear hk7 hown hr7 hb hts K6 B6 L6 hn7 hpl hkl;go_wp2_with fail
 ((with_reducible refine (Lt.Bg HN7.out.1 HR7.out.1 (by have:=HN7.out;omega)).mono ?_);rintro e w8 ⟨q8,n8,rfl,hl8,hb⟩);have K8:=hdz (K7.out.stay hb);have B8:=hdz (af (B7.out.1.stay hb) (B7.out.2.stay hb));have L8:=hdz (af (L7.out.stay hb) (af hl8 (HR7.out.2.kp (bO.below hb))));have L8b:=hdz (L7b.out.stay hb);clear hl8 hb K7 B7 L7 L7b HR7;go_wp2_with fail
 (with_reducible refine (Lt.Cq L8.out.2.1).mono ?_);rintro e w9 ⟨q9,n9,rfl,hl9,hb⟩
 have hkids:aA w9 ⟨aO (t::r) k⟩ ⟨q9,(n9:Int)⟩:=by
  rw [HU.out.1.1];exact aA.of hl9 ((L8.out.2.2.kp (bO.below hb)).reverse) (by rw [gy,gJ];have:=HU.out;have h9:u.size=1+u.bs.length+u.ks.size:=rfl;omega) (uE HO.out.2.1 HO.out.2.2)
 have hA:=(Below.refl w9.heap.size w9).alloc (Nat.le_refl _) (.cells #[.pointer q9,.int .i64 (n9:Int)] 257);have K9:=hdz ((K8.out.stay hb).stay hA);have B9:=hdz (af ((B8.out.1.stay hb).stay hA) (af ((B8.out.2.stay hb).stay hA) (aB.new w9 257 (.pointer q9) (.int .i64 (n9:Int)))));have L9:=hdz (af ((L8.out.1.stay hb).stay hA) (hkids.stay hA));have L9b:=hdz ((L8b.out.stay hb).stay hA);clear hl9 hb K8 B8 L8 L8b hkids hA;have c0:=B9.out.2.2.c0;have c1:=B9.out.2.2.c1;have d0:=B9.out.2.1.c0;have d1:=B9.out.2.1.c1;go_wp2_with fail
 generalize w9.alloc (.cells #[.pointer q9,.int .i64 (n9:Int)] 257)=wB at *;generalize w9.heap.size=b9 at *;have HMM:=eT mo ⟨aO (t::r) k⟩ ⟨aK (t::r) k⟩ (c+(Lh.mk (t::r)).bT) m ⟨q9,(n9:Int)⟩ p9 wB (by show ah (aO (t::r) k)+ah (aK (t::r) k)<_;have:=HPS.out;omega) K9.out.mt (by have:=HN.out;omega) (by have:=HN.out;have:=HPO.out;omega) HN.out.2.2.1 (by have:=HN.out;omega) L9.out.2 L9.out.1;have hkr:rises (aO (t::r) k):=by rw [HU.out.1.1];exact Gn.ay.je HO.out.2.2.2
 have HMB:=hdz (show bI ⟨aO (t::r) k⟩ ⟨aK (t::r) k⟩=⟨cu (t::r) k⟩∧aQ ⟨aO (t::r) k⟩ ⟨aK (t::r) k⟩=dR (t::r) k from uU hkr);rw [HMB.out.1,HMB.out.2]at HMM;clear hkr;have TB:=hdz (L9b.out);((with_reducible refine HMM.mono ?_);rintro e w10 ⟨p10,rfl,ht10,hm10,hb10⟩);have R10:=hdz (B9.out.1.bt hb10 K9.out.mt (by decide));have K10:=hdz (K9.out.turn hm10 hb10 ax);have L10:=hdz (af ht10 (TB.out.kp (Kp.tree (Kp.bt hb10 K9.out.mt))));clear ht10 hm10 hb10 c0 c1 d0 d1 HMM;go_wp2_with fail
 ((with_reducible refine (sI fa (some u) _ L10.out.2 (by have:=HU.out;simp only [bF];omega)).mono ?_);rintro e w11 ⟨v11,rfl,hown,hb⟩);have hown:j3 w11 w10.heap.size v11 u.bs:=hown;have hkb:∀x∈u.bs,iI w11 x:=fun x hx=>(AP L10.out.2 x hx).stay hb;have HKB:=hdz hkb;obtain ⟨A11,c11,rfl,hr11, -, -, -⟩:=hown.form;have hblk:=hown.block;have R11:=hdz (R10.out.stay hb);have K11:=hdz (K10.out.stay hb);have L11:=hdz (aA.stay L10.out.1 hb);have HNE:=hdz (show 0<u.bs.length → ∀b,mo=some b → ∀q,A11=some q→q.block≠b from fun h0 b eb q eq=>by subst eb;subst eq;have h1:=hblk q.block (by obtain ⟨b1,o1,e1, -⟩:=hr11 h0;cases e1;rfl);have h2:b<w10.heap.size:=aW.lt K10.out.mt;omega);have HR11:=hdz (show Row1 oH w11 A11 u.bs from hr11);clear hown hblk hr11 hb hkb R10 K10 L10;go_wp2_with fail
 have HWW:=hdz (uq mo (c+(Lh.mk (t::r)).bT+(dR (t::r) k:Nat)) (m+(dR (t::r) k:Nat)) ⟨cu (t::r) k⟩ p10 A11 u.bs c11 _ K11.out.mt (by have:=HN.out;omega) (by have:=HN.out;have:=HPO.out;omega) (by have:=HN.out;omega) (by have:=HN.out;have:=HPO.out;omega) HR11.out HKB.out (by show ah (cu (t::r) k)+_<_;rw [uP];exact HPS.out) HNE.out L11.out);((with_reducible refine HWW.out.mono ?_);rintro e w12 ⟨p12,rfl,ht12,hm12,hb12⟩);have R12:=hdz (R11.out.bt hb12 K11.out.mt (by decide));have K12:=hdz (K11.out.turn hm12 hb12 ax);have L12:=hdz ht12;have z0:=R12.out.z0;have z1:=R12.out.z1;have r0:=R12.out.c0;have r1:=R12.out.c1;have s0:=(R12.out.set (.pointer p12.q) (.int .i64 p12.n)).c0;have s1:=(R12.out.set (.pointer p12.q) (.int .i64 p12.n)).c1;clear ht12 hm12 hb12 HWW;go_wp2_with fail
 have hk:=K12.out.eY R12.out aj (by decide) (by have:=HA.out;omega) (.pointer p12.q) (.int .i64 p12.n);have e1:c+(((Lh.mk (t::r)).jf+(Lh.mk (t::r)).bT:Nat):Int)=c+((Lh.mk (t::r)).bT:Nat)+(dR (t::r) k:Nat)+(dG ⟨cu (t::r) k⟩ u.bs:Nat):=by rw [HPO.out.2.1];omega
 have e2:m+((Lh.mk (t::r)).jl:Nat)=m+(dR (t::r) k:Nat)+(dD ⟨cu (t::r) k⟩ u.bs:Nat):=by rw [HPO.out.2.2.1];omega
 exact bodyPost_ret (v := .tuple #[hp p12,.bool true]) (by simp [results,Tryz.results332,go_sem,s0,s1]) rfl ⟨p12,rfl,by rw [HPO.out.1];exact L12.out.set2 R12.out aj _ _,by rw [e1,e2];exact hk.mt,hk.bt⟩
theorem jb (mo:Option Nat)(c m:Int)(h:Lh)(p:HP)(w:World)(hs:h.size<134217728)(hm:aW w mo c m)(h0:0≤c)(h1:c<144115188075855872)(h2:0≤m)(h3:m<144115188075855872)
  (hh:aA w h p):Calls Tryz.prog 332 #[hp p,aF mo] w (gP mo (c+(h.jf+h.bT:Nat)) (m+h.jl) h.pop h.some w):=by
 obtain ⟨ts⟩:=h
 cases ts with
 | nil =>
  refine (kV mo c m p w hm h0 h1 h2 h3 hh).mono fun e w' ⟨p',he,ht,hm',hb⟩=>⟨p',he,ht,?_,hb⟩;have e1:(Lh.mk []).jf=0:=rfl;have e3:(Lh.mk []).jl=0:=rfl;have e2:(Lh.mk []).bT=0:=rfl;rw [e1,e2,e3];simpa using hm'
 | cons t r=>exact kX mo c m t r p w hs hm h0 h1 h2 h3 hh
end Go.Proofs.YtmeodbjlmjpnbaaGreat.U.Hp
namespace Go.Proofs.YtmeodbjlmjpnbaaGreat.U.Hp
open Go.Sort Go.RowKit Go.Proofs.YtmeodbjlmjpnbaaGreat.U.Gn
theorem lowerT {w:World}{base base':Nat}{v:Value}{xs:List aN}(h:j3 w base v xs)(hb:base'≤base):j3 w base' v xs :=
 ⟨h.1,h.2.imp id (fun ⟨g,cap,cur,a,b,r⟩=>⟨g,cap,cur,a,Nat.le_trans hb b,r⟩)⟩
theorem rY (w:World)(base:Nat)(v:Value)(xs ys:List aN)(A:Option Addr)(c:Nat)(hown:j3 w base v xs)(hr:Row1 oH w A ys)(hA:A=Option.none→c=0)(hlen:xs.length+ys.length<2147483648)(hb:base≤w.heap.size) :
  ∃v' w',(Builtin.append_ #[382, 382] 382 #[v,.slice A ys.length c]).run Tryz.prog w=.ok v' w'∧j3 w' base v' (xs++ys)∧w.grownBy w' v.ownBlock:=by
 obtain ⟨i0,hi,hz0,hz1,hz2⟩:=info_parts Gt
 have step:∀a:Addr,(∀j u,(ys.map oH)[j]?=some u→w.cell? (a.add j)=some u) → ∃v' w',(Builtin.append_ #[382, 382] 382 #[v,.slice (some a) ys.length c]).run Tryz.prog w=.ok v' w'∧j3 w' base v' (xs++ys)∧w.grownBy w' v.ownBlock:=by
  intro a hc;obtain ⟨v',w',h1,h2,h3,_⟩:=run_append_own_at (P:=Tryz.prog) w base 382 382 125 i0 _ 1 8 Tryz.underlying382 hi hz0 hz1 hz2 rfl (by omega) v xs.length (xs.map oH) hown a ys.length c (ys.map oH) (by simp) hc (fun u hu=>by obtain ⟨x, -,rfl⟩:=List.mem_map.1 hu;rfl) (by unfold maxLen;omega) (by omega) hb;refine ⟨v',w',h1,?_,h3⟩;unfold j3 Mine;rw [List.length_append,List.map_append];exact h2
 by_cases h0:0<ys.length
 ·obtain ⟨b,o,rfl,hc⟩:=hr h0;refine step _ (fun j u hu=>?_);rw [jY];rw [List.getElem?_map]at hu;obtain ⟨y,hy,rfl⟩:=Option.map_eq_some_iff.1 hu;obtain ⟨hlt,rfl⟩:=List.getElem?_eq_some_iff.1 hy;exact hc j hlt
 ·obtain rfl:ys=[]:=List.eq_nil_of_length_eq_zero (by omega)
  cases A with
  | some a=>exact step a (fun j u hu=>by simp at hu)
  | none =>
   obtain rfl:=hA rfl;have hrun:=run_append_owned_none (P:=Tryz.prog) (w:=w) base 382 382 125 i0 1 Tryz.underlying382 hi v xs.length (xs.map oH) hown;exact ⟨v,w,hrun,by rw [List.append_nil];exact hown,World.grownBy.refl w _⟩
theorem ES (t:Lh)(p:HP)(w:World)(h:aA w t p)(hs:t.size<268435456):Calls Tryz.prog 240 #[hp p] w fun e w' => ∃v,e=.returned v∧j3 w' w.heap.size v t.all∧Below w.heap.size w w':=by
 obtain ⟨ts⟩:=t;obtain ⟨ps,n,hn,hnl,hl,ht⟩:=h.list;obtain ⟨q,pn⟩:=p;change pn=(n:Int) at hn;subst hn;have hb1:Below w.heap.size w (w.alloc (.cells #[.pointer q,.int .i64 (n:Int)] 257)):=(Below.refl _ w).alloc (Nat.le_refl _) _;have hlb:=bW ts;have H:=hdz (af (hl.stay hb1) (af (ht.kp (bO.below hb1)) (af hb1 (af (show n=ts.length from hnl) (af (show ah ts<268435456 from hs) hlb)))));clear h hl ht hb1 hs hnl hlb;go_enter Tryz.func240,Tryz.ntmps240
 go_wp2_with fail
 ((with_reducible refine (Lt.qK H.out.1).mono ?_);rintro e w3 ⟨A,cc,rfl, -,hr,hnc,hb3⟩);have X0:=hdz (af hr (af (H.out.2.1.kp (bO.below hb3)) (H.out.2.2.1.trans (hb3.mono H.out.2.2.1.size))));clear hr hnc hb3;go_wp2_with fail
 go_loopg [3,10] n (fun k v iv wr => ∃i:Nat,iv=.int .i64 (i:Int)∧i+k=n∧j3 wr w3.heap.size v (aR (ts.take i))∧Below w3.heap.size w3 wr)
 case atStart=>exact ⟨0,rfl,by omega,Mine.none _ _ _,Below.refl _ _⟩
 case round =>
  obtain ⟨i,rfl,hi,hown,hbe⟩:=hrel;by_cases hlt:i<n
  ·have hil:i<ts.length:=by have:=H.out.2.2.2.1;omega
   obtain ⟨a,ha,hta⟩:=X0.out.2.1.at (List.getElem?_eq_getElem hil);obtain ⟨b,o,rfl⟩:=jW X0.out.1 (by have:=X0.out.2.1.length;omega)
   have htk:aR (ts.take (i+1))=aR (ts.take i)++ts[i].all:=by
    rw [List.take_succ_eq_append_getElem hil,iW];simp [aR]
   have hz1:=mU hil;have hz2:=cO ts (i+1);have hx:=(hbe.cell (block_lt_of_cell (jP X0.out.1 ha))).trans (jP X0.out.1 ha);have g1:decide ((i:Int)<(n:Int))=true:=by simp;omega
   have g2:(i:Int)<(n:Int):=by omega
   have g3:(0:Int)≤(i:Int):=by omega
   generalize ts[i]=t at *;have X:=hdz (af hown (af hbe (af hta (af htk (af (show t.size≤ah ts∧ah (ts.take i)+t.size≤ah ts by omega) hi)))));clear hown hbe hta htk hz1 hz2 hi hil ha;go_wp2_with fail
   ((with_reducible refine (Go.Proofs.YtmeodbjlmjpnbaaGreat.U.qp a (some t) _ (X.out.2.2.1.stay X.out.2.1) (by have:=X.out;have:=H.out;simp only [bF];omega)).mono ?_);rintro e w4 ⟨v4,rfl,hown4,hb4⟩);have hown4:j3 w4 _ v4 t.all:=hown4;obtain ⟨A4,c4,rfl,hr4, -, -,hA4⟩:=hown4.form;have hb5:=X.out.2.1.trans (hb4.mono X.out.2.1.size);have hl4:t.all.length=t.size:=t.aD;obtain ⟨v5,w5,hrun,hown5,hg5⟩:=rY w4 w3.heap.size _ (aR (ts.take i)) t.all A4 c4 (Mine.stay X.out.1 hb4) hr4 hA4 (by rw [aG,hl4];have:=X.out;have:=H.out;omega) hb5.size;have HR:=hdz hrun;have Y:=hdz (af hown5 (below_grown hb5 hg5 hb5.size (fun g hg=>Mine.block X.out.1 g hg)));clear hb4 hb5 hl4 hrun hown5 hg5 hown4 hr4 hA4;go_wp2_with (at_builtin;refine wpList_append_run rfl _ _ _ rfl _ _ _ _ rfl rfl HR.out ?_)
   go_roundg (n - 1 - i)
   case measure=>have:=X.out.2.2.2.2.2;omega
   case rel=>exact ⟨i+1,by first|rfl|(congr 1;have:=H.out;first|(unfold wrap64;omega)|(rw [IntKind.wrap_i64];omega)),by have:=X.out.2.2.2.2.2;omega,X.out.2.2.2.1▸Y.out.1,Y.out.2⟩
  ·have hin:i=n:=by omega
   have g1:decide ((i:Int)<(n:Int))=false:=by simp;omega
   have g2:¬(i:Int)<(n:Int):=by omega
   have htk:ts.take i=ts:=by rw [hin,H.out.2.2.2.1,List.take_length]
   rw [htk]at hown;have Y:=hdz (af (lowerT hown X0.out.2.2.size) (X0.out.2.2.trans (hbe.mono X0.out.2.2.size)));clear hown hbe htk hi;go_wp2_with fail
   go_ret
   exact ⟨_,rfl,Y.out.1,Y.out.2⟩
end Go.Proofs.YtmeodbjlmjpnbaaGreat.U.Hp
