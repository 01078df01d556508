/- heap.Show at a heap of any kind; six kinds that show; a row's beginning. No conditions beyond KindS's. -/
import Derived.Test.YtmeodbjlmjpnbaaGreatPd
import Derived.Test.YtmeodbjlmjpnbaaGreatPw
import Derived.Test.YtmeodbjlmjpnbaaGreatPa
import Derived.Test.YtmeodbjlmjpnbaaGreatQx
set_option maxRecDepth 100000
set_option maxHeartbeats 8000000
namespace Go.Proofs.YtmeodbjlmjpnbaaGreat
open Go.Sort Go.RowKit
theorem Gu {T:TypeId}{fW:FuncId}{s:List UInt8}(v:Value)(w:World)(hm:∀(n:Nat) (v:Value) (w:World),(method (n+1) T v "slagheap/heap.show").run Tryz.prog w=.ok (fW,v) w)
  (hc:∀(args:Array Value) (w:World),(callFunc fW args).run Tryz.prog w=.ok (.enter fW args) w)
  (hs:∀W,Below w.heap.size w W→Calls Tryz.prog fW #[v] W fun e w'=>e=.returned (.string ⟨s.toArray⟩)∧Below W.heap.size W w') :
  Calls Tryz.prog 28 #[.agg #[.iface T v]] w fun e w'=>e=.returned (.string ⟨s.toArray⟩)∧Below w.heap.size w w':=by
 have hb1:Below w.heap.size w (w.alloc (.cells #[.iface T v] 27)):=bG _;have H:=hdz (af hb1 (hs _ hb1));clear hb1 hs;go_enter Tryz.func28,Tryz.ntmps28
 go_wp2_with fail
 refine H.out.2.mono ?_;rintro e w1 ⟨rfl,hb⟩;have Y:=hdz (H.out.1.trans (hb.mono H.out.1.size));clear hb;go_wp2_with fail
 refine bodyPost_ret (v := .string ⟨s.toArray⟩) (by simp [results,Tryz.results28,go_sem]) rfl ⟨rfl,Y.out⟩
theorem BG [Tb](k:Int)(h:1≤k∧k≤6):∃(T:TypeId) (fI fM fN fP fS fW:FuncId) (At:World→Value→List (Int×Int)→Prop),iT k T fI fM fN fP fS At∧vU T fW At:=by
 have:k=1∨k=2∨k=3∨k=4∨k=5∨k=6:=by omega
 rcases this with rfl|rfl|rfl|rfl|rfl|rfl
 ·exact ⟨_,_,_,_,_,_,_,_,Le.mr,Le.qZ⟩
 ·exact ⟨_,_,_,_,_,_,_,_,Bi.Hp.mr,Bi.Hp.qZ⟩
 ·exact ⟨_,_,_,_,_,_,_,_,Pd.mr,Pd.qZ⟩
 ·exact ⟨_,_,_,_,_,_,_,_,Sk.Hp.mr,Sk.Hp.qZ⟩
 ·exact ⟨_,_,_,_,_,_,_,_,Sk.Ro.mr,Sk.Ro.qZ⟩
 ·exact ⟨_,_,_,_,_,_,_,_,U.Bo.mr,U.Bo.qZ⟩
theorem Row.take {w:World}{A:Option Addr}{xs:List (Int×Int)}(h:Row w A xs)(t:Nat):Row w A (xs.take t):=by
 intro hp;obtain ⟨b,o,e,hc⟩:=h (by rw [List.length_take]at hp;omega);refine ⟨b,o,e,fun j u hu=>hc j u ?_⟩;rw [←List.take_append_drop t xs,r9,List.getElem?_append_left (List.getElem?_eq_some_iff.1 hu).1];exact hu
end Go.Proofs.YtmeodbjlmjpnbaaGreat
namespace Go.Proofs.YtmeodbjlmjpnbaaGreat
open Go.Sort Go.RowKit
theorem AA (k:Int)(A:Option Addr)(n c:Nat)(q:Int)(w:World)(h:40<n∨k<1∨6<k):Calls Tryz.prog 6 #[.int .i64 k,.slice A n c,.int .u8 q] w fun e w'=>e=.returned (.bool true)∧Below w.heap.size w w':=by
 have h':40<n∨(¬40<n∧k<1)∨(¬40<n ∧ ¬k<1∧6<k):=by omega
 clear h;rcases h' with h1|⟨h1,h2⟩|⟨h1,h2,h3⟩
 all_goals
  have i1:((40:Int)<(n:Int))=(40<n):=by simp only [eq_iff_iff];omega
  go_enter Tryz.func6,Tryz.ntmps6
  go_wp2_with fail
  refine (yC _).mono ?_;rintro e w1 ⟨rfl,hb⟩;go_wp2_with fail
  refine bodyPost_ret (v := .bool true) (by simp [results,Tryz.results6,go_sem]) rfl ⟨rfl,hb⟩
theorem ze [Tb]{k:Int}{T:TypeId}{fI fM fN fP fS fW:FuncId}{At:World→Value→List (Int×Int)→Prop}(K:iT k T fI fM fN fP fS At)(KS:vU T fW At)(A:Option Addr)(xs:List (Int×Int))(c:Nat)(q:Nat)(w:World)(he:Env w)(hk:1≤k∧k≤6)(hxl:xs.length≤40)(fx:fits xs)(hr:Row w A xs)(hq:q≤255):Calls Tryz.prog 6 #[.int .i64 k,.slice A xs.length c,.int .u8 (q:Int)] w fun e w'=>e=.returned (.bool true)∧Below w.heap.size w w':=by
 have HB:=hdz (Below.refl w.heap.size w);have HX:=hdz (af hxl (af fx hr));obtain ⟨n,hn⟩:=aU (xs.length);rw [←hn];have hn1:¬k<1:=by omega
 have hn2:¬6<k:=by omega
 have l1:¬40<n:=by omega
 have i1:((40:Int)<(n:Int))=(40<n):=by simp only [eq_iff_iff];omega
 have HN:=hdz hn;have HN4:=hdz (show n≤40 by omega);have HK1:=hdz hk.1;have HE:=hdz he;clear hk hxl fx hr hn he;go_enter Tryz.func6,Tryz.ntmps6
 go_wp2_with fail
 refine (yC _).mono ?_;rintro e w1 ⟨rfl,hb⟩;have HBx:=hdz (HB.out.trans (hb.mono HB.out.size));clear HB hb;go_wp2_with fail
 rw [HN.out];refine (K.of A xs c _ (HX.out.2.2.below HBx.out) (by have:=HX.out.1;omega) HX.out.2.1).mono ?_;rintro e w2 ⟨v1,rfl,ha,hb⟩;have HB:=hdz (HBx.out.trans (hb.mono HBx.out.size));clear HBx hb;have hfl:fits (dw xs):=fun y hy=>HX.out.2.1 y ((jv xs).2.mem_iff.1 hy);generalize hl:dw xs=l at *;have hll:l.length=n:=by rw [←hl,kG,HN.out]
 obtain ⟨s,hs⟩:=KS.shows v1 l _ ha (by rw [hll];have:=HN4.out;omega) hfl;have HLL:=hdz (af hl hll);rw [←HN.out];clear hl hll hfl;have HS:=hdz (fun W (hb:Below w2.heap.size w2 W)=>hs W (bO.below hb) hb.size (HE.out.below (HB.out.trans (hb.mono HB.out.size))));clear hs;have B0:=hdz (Below.refl w2.heap.size w2);have A1:=hdz (ha);clear ha;have hb:=(Below.refl w2.heap.size w2).alloc (Nat.le_refl _) (.cells #[.iface T v1] 27);have HBx:=hdz (HB.out.trans (hb.mono HB.out.size));have B0x:=hdz (B0.out.trans (hb.mono B0.out.size));have A1x:=hdz (K.stay A1.out hb);clear HB B0 A1 hb;have VX:=hdz (show (w2.alloc (.cells #[.iface T v1] 27)).heap[w2.heap.size]?=some (.cells #[.iface T v1] 27 (0,0)) from aJ (by simp));go_wp2_with fail
 generalize w2.alloc (.cells #[.iface T v1] 27)=w3 at *;refine (Gu v1 _ KS.mW KS.cW (fun W hb=>HS.out W (B0x.out.trans (hb.mono B0x.out.size)))).mono ?_;rintro e w4 ⟨rfl,hb⟩;have HB:=hdz (HBx.out.trans (hb.mono HBx.out.size));have B0:=hdz (B0x.out.trans (hb.mono B0x.out.size));have A1:=hdz (K.stay A1x.out hb);have VXx:=hdz ((hb.block _ (lt_of_heap VX.out)).trans VX.out);clear HBx B0x A1x VX hb;have c_VX:=one_cell VXx.out;go_wp2_with fail
 clear c_VX;refine (qg K v1 l _ A1.out (by rw [HLL.out.2];have:=HN4.out;omega)).mono ?_;rintro e w5 ⟨av,rfl,hown,hb⟩;have HBx:=hdz (HB.out.trans (hb.mono HB.out.size));have B0x:=hdz (B0.out.trans (hb.mono B0.out.size));have A1x:=hdz (K.stay A1.out hb);have VX:=hdz ((hb.block _ (lt_of_heap VXx.out)).trans VXx.out);clear HB B0 A1 VXx hb;have S1:=hdz (hown.rw);clear hown;have c_VX:=one_cell VX.out;go_wp2_with fail
 clear c_VX;refine (FH K HK1.out v1 l q _ A1x.out (by rw [HLL.out.2];have:=HN4.out;omega)).mono ?_;rintro e w6 ⟨tv,rfl,hp,hb⟩;have HB:=hdz (HBx.out.trans (hb.mono HBx.out.size));have B0:=hdz (B0x.out.trans (hb.mono B0x.out.size));have A1:=hdz (K.stay A1x.out hb);have VXx:=hdz ((hb.block _ (lt_of_heap VX.out)).trans VX.out);have S1x:=hdz (S1.out.stay hb);clear HBx B0x A1x VX S1 hb;have RP:=hdz (hp);clear hp;obtain ⟨A3,c3,rfl,hra,hc3,hc4,hz3⟩:=S1x.out.form;obtain ⟨A4,c4,rfl,hrb, -⟩:=RP.out.form;rw [HLL.out.2]at hc3;obtain ⟨t,ht⟩:=aU ((l.take q).length);rw [HLL.out.2,←ht];have htq:t≤n∧((n<q∧t=n)∨(q≤n∧t=q)):=by rw [List.length_take,HLL.out.2]at ht;omega
 have htk:l.take t=l.take q:=by
  rcases htq.2 with ⟨h1,h2⟩|⟨h1,h2⟩
  ·rw [List.take_of_length_le (by rw [HLL.out.2];omega),List.take_of_length_le (by rw [HLL.out.2];omega)]
  ·rw [h2]
 have m1:min (q:Int) (n:Int)=(t:Int):=by omega
 have t0:(0:Int)≤(t:Int):=by omega
 have t1:t≤c3:=by omega
 have t2:(t:Int)≤(c3:Int):=by omega
 have HR:=hdz (af htk ht);clear hra hrb hc3 hc4 hz3 htq htk ht;have c_VX:=one_cell VXx.out;go_wp2_with fail
 clear c_VX;obtain ⟨A5,c5,e5,hra, -⟩:=S1x.out.form
 cases e5
 obtain ⟨A6,c6,e6,hrb, -⟩:=RP.out.form
 cases e6
 have HC:=zP A3 A4 (l.take t) (l.take q) c3 c4 _ (by rw [List.length_take,HLL.out.2];have:=HN4.out;omega) (hra.take t) hrb;rw [HR.out.1,←HR.out.2,show decide (l.take q=l.take q)=true from decide_eq_true rfl]at HC;clear hra hrb;refine (HC).mono ?_;rintro e w7 ⟨rfl,hb⟩;have HBx:=hdz (HB.out.trans (hb.mono HB.out.size));have B0x:=hdz (B0.out.trans (hb.mono B0.out.size));have A1x:=hdz (K.stay A1.out hb);have VX:=hdz ((hb.block _ (lt_of_heap VXx.out)).trans VXx.out);have S1:=hdz (S1x.out.stay hb);have RPx:=hdz (RP.out.stay hb);clear HB B0 A1 VXx S1x RP hb;clear HC;have c_VX:=one_cell VX.out;go_wp2_with fail
 clear c_VX;refine (Gu v1 _ KS.mW KS.cW (fun W hb=>HS.out W (B0x.out.trans (hb.mono B0x.out.size)))).mono ?_;rintro e w8 ⟨rfl,hb⟩;have HB:=hdz (HBx.out.trans (hb.mono HBx.out.size));have B0:=hdz (B0x.out.trans (hb.mono B0x.out.size));have A1:=hdz (K.stay A1x.out hb);have VXx:=hdz ((hb.block _ (lt_of_heap VX.out)).trans VX.out);have S1x:=hdz (S1.out.stay hb);have RP:=hdz (RPx.out.stay hb);clear HBx B0x A1x VX S1 RPx hb;have c_VX:=one_cell VXx.out;go_wp2_with fail
 clear c_VX;refine (qg K v1 l _ A1.out (by rw [HLL.out.2];have:=HN4.out;omega)).mono ?_;rintro e w9 ⟨bv,rfl,hown,hb⟩;have HBx:=hdz (HB.out.trans (hb.mono HB.out.size));have B0x:=hdz (B0.out.trans (hb.mono B0.out.size));have A1x:=hdz (K.stay A1.out hb);have VX:=hdz ((hb.block _ (lt_of_heap VXx.out)).trans VXx.out);have S1:=hdz (S1x.out.stay hb);have RPx:=hdz (RP.out.stay hb);clear HB B0 A1 VXx S1x RP hb;have S2:=hdz (hown.rw);clear hown;go_wp2_with fail
 have HC:=Fz bv _ l l _ (by rw [HLL.out.2];have:=HN4.out;omega) S2.out S1.out;rw [show decide (l=l)=true from decide_eq_true rfl,HLL.out.2]at HC;refine (HC).mono ?_;rintro e w10 ⟨rfl,hb⟩;have HB:=hdz (HBx.out.trans (hb.mono HBx.out.size));have B0:=hdz (B0x.out.trans (hb.mono B0x.out.size));have A1:=hdz (K.stay A1x.out hb);have VXx:=hdz ((hb.block _ (lt_of_heap VX.out)).trans VX.out);have S1x:=hdz (S1.out.stay hb);have RP:=hdz (RPx.out.stay hb);have S2x:=hdz (S2.out.stay hb);clear HBx B0x A1x VX S1 RPx S2 hb;clear HC;go_wp2_with fail
 refine bodyPost_ret (v := .bool true) (by simp [results,Tryz.results6,go_sem]) rfl ⟨rfl,HB.out⟩
theorem Av [Tb](k:Int)(A:Option Addr)(xs:List (Int×Int))(c:Nat)(q:Nat)(w:World)(he:Env w)(hq:q≤255)(fx:fits xs)(hr:Row w A xs):Calls Tryz.prog 6 #[.int .i64 k,.slice A xs.length c,.int .u8 (q:Int)] w fun e w'=>e=.returned (.bool true)∧Below w.heap.size w w':=by
 by_cases h:40<xs.length∨k<1∨6<k
 ·exact AA k A _ c q w h
 obtain ⟨T,fI,fM,fN,fP,fS,fW,At,K,KS⟩:=BG k ⟨by omega,by omega⟩;exact ze K KS A xs c q w he ⟨by omega,by omega⟩ (by omega) fx hr hq
end Go.Proofs.YtmeodbjlmjpnbaaGreat
