/- DrainCounts holds: of every two kinds, of every two rows of elements and every element: it returns true, and nothing that was there has changed. -/
import Derived.Test.YtmeodbjlmjpnbaaGreatPd
import Derived.Test.YtmeodbjlmjpnbaaGreatPa
set_option maxRecDepth 100000
set_option maxHeartbeats 8000000
namespace Go.Proofs.YtmeodbjlmjpnbaaGreat
open Go.Sort Go.RowKit
theorem wp_after {P:Program} {c:Code} {a:Act} {w:World} {Q:Exit → Act → World → Prop} (R:Act → Act → World → Prop) (h1:c.wp P (fun e a' w' => e = .normal ∧ R a a' w') a w) (h2:∀ a' w',R a a' w' → Q .normal a' w'):c.wp P Q a w :=
 Code.wp_mono (fun e a' w' h => by obtain ⟨rfl,hr⟩:=h;exact h2 a' w' hr) h1
def NV (t:TypeId):Prop:=t ≠ 27
theorem nv_nh {W W':World} (h:Kpt NV W W'):Kpt NH W W':=fun k cs t ht e => h k cs t (fun e2 => absurd (e2 ▸ ht) (by decide)) e
theorem nv_but {W W':World} {b:Nat} (h:But b W W') {cs:Array Value} {z:Nat × Nat} (hb:W.heap[b]? = some (.cells cs 27 z)):Kpt NV W W':=fun k cs t ht e => (h.block k (lt_of_heap e) fun ek => by subst ek;rw [hb] at e;cases e;exact ht rfl).trans e
theorem Rw.nv {W W':World} {v:Value} {xs:List (Int × Int)} (h:Rw W v xs) (hk:Kpt NV W W'):Rw W' v xs:=by
 rcases h with h | ⟨g,o,c,cs,h1,h2,h3,h4,h5⟩
 ·exact .inl h
 ·exact .inr ⟨g,o,c,cs,h1,h2,h3,hk _ _ _ (by unfold NV;decide) h4,h5⟩
theorem srt_none (xs:List (Int × Int)):decide (srt xs = []) = decide (xs.length = 0):=by
 refine decide_eq_decide.2 ⟨fun h => ?_,fun h => ?_⟩
 ·have:=congrArg List.length h;rw [srt_length] at this;exact this
 ·rw [List.eq_nil_of_length_eq_zero h,srt_nil]
theorem counts_out (k k2:Int) (A B:Option Addr) (n m c d:Nat) (x1 x2:Int) (w:World) (h:40 < n ∨ 40 < m ∨ k < 1 ∨ 6 < k ∨ k2 < 1 ∨ 6 < k2):Calls Tryz.prog 4 #[.int .i64 k,.int .i64 k2,.slice A n c,.slice B m d,.agg #[.int .i64 x1,.int .i64 x2]] w fun e w' => e = .returned (.bool true) ∧ Below w.heap.size w w':=by
 have h':40 < n ∨ (¬ 40 < n ∧ 40 < m) ∨ (¬ 40 < n ∧ ¬ 40 < m ∧ k < 1) ∨ (¬ 40 < n ∧ ¬ 40 < m ∧ ¬ k < 1 ∧ 6 < k) ∨ (¬ 40 < n ∧ ¬ 40 < m ∧ ¬ k < 1 ∧ ¬ 6 < k ∧ k2 < 1) ∨ (¬ 40 < n ∧ ¬ 40 < m ∧ ¬ k < 1 ∧ ¬ 6 < k ∧ ¬ k2 < 1 ∧ 6 < k2):=by omega
 clear h;rcases h' with h1 | ⟨h1,h2⟩ | ⟨h1,h2,h3⟩ | ⟨h1,h2,h3,h4⟩ | ⟨h1,h2,h3,h4,h5⟩ | ⟨h1,h2,h3,h4,h5,h6⟩
 all_goals
  have i1:((40:Int) < (n:Int)) = (40 < n):=by simp only [eq_iff_iff];omega
  have i2:((40:Int) < (m:Int)) = (40 < m):=by simp only [eq_iff_iff];omega
  have hb0:Below w.heap.size w (w.alloc (.cells #[.int .i64 x1,.int .i64 x2] 29)):=bqA _;go_enter Tryz.func4,Tryz.ntmps4
  go_wp2_with fail
  refine (awake_any _).mono ?_;rintro e w1 ⟨rfl,hb⟩;have hb:=hb0.trans (hb.mono hb0.size);go_wp2_with fail
  refine bodyPost_ret (v := .bool true) (by simp [results,Tryz.results4,go_sem]) rfl ⟨rfl,hb⟩
theorem counts_good {k:Int} {T:TypeId} {fI fM fN fP fS:FuncId} {At:World → Value → List (Int × Int) → Prop} (K:KindC k T fI fM fN fP fS At) {k2:Int} {T2:TypeId} {fI2 fM2 fN2 fP2 fS2:FuncId} {At2:World → Value → List (Int × Int) → Prop} (K2:KindC k2 T2 fI2 fM2 fN2 fP2 fS2 At2) (A:Option Addr) (xs:List (Int × Int)) (c:Nat) (B:Option Addr) (ys:List (Int × Int)) (d:Nat) (x1 x2:Int) (w:World) (hk:1 ≤ k ∧ k ≤ 6) (hk2:1 ≤ k2 ∧ k2 ≤ 6) (hxl:xs.length ≤ 40) (hyl:ys.length ≤ 40) (fx:fits xs) (fy:fits ys) (hr:Row w A xs) (hr2:Row w B ys) (hxe:in64 x1 ∧ in64 x2):Calls Tryz.prog 4 #[.int .i64 k,.int .i64 k2,.slice A xs.length c,.slice B ys.length d,.agg #[.int .i64 x1,.int .i64 x2]] w fun e w' => e = .returned (.bool true) ∧ Below w.heap.size w w':=by
 have HB:=hdz (Below.refl w.heap.size w);have HX:=hdz (anz hxl (anz hyl (anz fx (anz fy (anz hr (anz hr2 hxe))))));obtain ⟨n,hn⟩:=exq (xs.length);obtain ⟨m,hm⟩:=exq (ys.length);rw [← hn,← hm];have hn1:¬ k < 1:=by omega
 have hn2:¬ 6 < k:=by omega
 have hn3:¬ k2 < 1:=by omega
 have hn4:¬ 6 < k2:=by omega
 have l1:¬ 40 < n:=by omega
 have l2:¬ 40 < m:=by omega
 have i1:((40:Int) < (n:Int)) = (40 < n):=by simp only [eq_iff_iff];omega
 have i2:((40:Int) < (m:Int)) = (40 < m):=by simp only [eq_iff_iff];omega
 have HN:=hdz (anz hn hm);have HN4:=hdz (show n ≤ 40 by omega);clear hk hk2 hxl hyl fx fy hr hr2 hn hm hxe;have hb:=(Below.refl w.heap.size w).alloc (Nat.le_refl _) (.cells #[.int .i64 x1,.int .i64 x2] 29);have HBx:=hdz (HB.out.trans (hb.mono HB.out.size));clear HB hb;have XB:=hdz (show Box2 (w.alloc (.cells #[.int .i64 x1,.int .i64 x2] 29)) (w.heap.size) 29 (.int .i64 x1) (.int .i64 x2) from new_at (by simp));go_enter Tryz.func4,Tryz.ntmps4
 go_wp2_with fail
 generalize w.alloc (.cells #[.int .i64 x1,.int .i64 x2] 29) = w1 at *;refine (awake_any _).mono ?_;rintro e w2 ⟨rfl,hb⟩;have HB:=hdz (HBx.out.trans (hb.mono HBx.out.size));have XBx:=hdz (XB.out.stay hb);clear HBx XB hb;go_wp2_with fail
 rw [HN.out.1];refine (K.of A xs c _ (HX.out.2.2.2.2.1.below HB.out) (by have:=HX.out.1;omega) HX.out.2.2.1).mono ?_;rintro e w3 ⟨v1,rfl,ha,hb⟩;have HBx:=hdz (HB.out.trans (hb.mono HB.out.size));have XB:=hdz (XBx.out.stay hb);clear HB XBx hb;rw [← HN.out.1];have A1:=hdz (ha);clear ha;have hb:=(Below.refl w3.heap.size w3).alloc (Nat.le_refl _) (.cells #[.iface T v1] 27);have HB:=hdz (HBx.out.trans (hb.mono HBx.out.size));have XBx:=hdz (XB.out.stay hb);have A1x:=hdz (K.stay A1.out hb);clear HBx XB A1 hb;have VP:=hdz (show (w3.alloc (.cells #[.iface T v1] 27)).heap[w3.heap.size]? = some (.cells #[.iface T v1] 27 (0,0)) from new_at (by simp));go_wp2_with fail
 generalize w3.alloc (.cells #[.iface T v1] 27) = w4 at *;rw [HN.out.2];refine (K2.of B ys d _ (HX.out.2.2.2.2.2.1.below HB.out) (by have:=HX.out.2.1;omega) HX.out.2.2.2.1).mono ?_;rintro e w5 ⟨v2,rfl,ha,hb⟩;have HBx:=hdz (HB.out.trans (hb.mono HB.out.size));have XB:=hdz (XBx.out.stay hb);have A1:=hdz (K.stay A1x.out hb);have VPx:=hdz ((hb.block _ (lt_of_heap VP.out)).trans VP.out);clear HB XBx A1x VP hb;rw [← HN.out.2];have A2:=hdz (ha);clear ha;have hb:=(Below.refl w5.heap.size w5).alloc (Nat.le_refl _) (.cells #[.iface T2 v2] 27);have HB:=hdz (HBx.out.trans (hb.mono HBx.out.size));have XBx:=hdz (XB.out.stay hb);have A1x:=hdz (K.stay A1.out hb);have VP:=hdz ((hb.block _ (lt_of_heap VPx.out)).trans VPx.out);have A2x:=hdz (K2.stay A2.out hb);clear HBx XB A1 VPx A2 hb;have VQ:=hdz (show (w5.alloc (.cells #[.iface T2 v2] 27)).heap[w5.heap.size]? = some (.cells #[.iface T2 v2] 27 (0,0)) from new_at (by simp));go_wp2_with fail
 generalize w5.alloc (.cells #[.iface T2 v2] 27) = w6 at *;have HBS:=hdz (Below.refl w6.heap.size w6);go_loopg [16,17] n (fun kk cn i wr => ∃ (j:Nat),cn = .int .i64 ((xs.take j).count (x1,x2):Nat) ∧ i = .int .i64 (j:Int) ∧ kk = n - j ∧ j ≤ n ∧ Below w6.heap.size w6 wr)
 case atStart => exact ⟨0,rfl,rfl,rfl,Nat.zero_le _,HBS.out⟩
 case round =>
  obtain ⟨j,rfl,rfl,hk,hj,hbb⟩:=hrel;have HBB:=hdz hbb;have HJ:=hdz (anz hj hk);clear hbb hk hj;obtain ⟨cq,hcq⟩:=exq ((xs.take j).count (x1,x2));rw [← hcq];have HCQ:=hdz hcq;have hcl:cq ≤ 40:=by rw [hcq];exact Nat.le_trans List.count_le_length (Nat.le_trans (List.length_take_le _ _) (by have:=HJ.out.1;have:=HN4.out;omega))
  clear hcq;by_cases hlt:j < n
  ·have g1:(j:Int) < (n:Int):=by omega
   have g2:(0:Int) ≤ (j:Int):=by omega
   obtain ⟨b,o,hA,hce⟩:=(HX.out.2.2.2.2.1.below (HB.out.trans (HBB.out.mono HB.out.size))) (by have:=HN.out;omega);subst hA;have e1:=row_at hce j (by have:=HN.out;omega);obtain ⟨y,hy⟩:∃ y,y = xs[j]'(by have:=HN.out;omega):=⟨_,rfl⟩;rw [← hy] at e1;obtain ⟨y1,y2⟩:=y
   have hct:(xs.take (j + 1)).count (x1,x2) = cq + if (y1,y2) = (x1,x2) then 1 else 0:=by
    rw [List.take_add_one,List.count_append,HCQ.out,List.getElem?_eq_getElem (by have:=HN.out;omega),← hy];by_cases h:(y1,y2) = (x1,x2)
    ·rw [if_pos h,h];simp
    ·rw [if_neg h];simp [h]
   have hxb:=XBx.out.below HBB.out (lt_of_heap XBx.out);have b0:=hxb.c0;have b1:=hxb.c1;have k0:=e1.1;have k1:=e1.2;dsimp only at k0 k1
   have hsp:(y1 = x1 ∧ y2 = x2) ∨ (y1 = x1 ∧ ¬ y2 = x2) ∨ ¬ y1 = x1:=by omega
   clear hce e1 hy hxb;rcases hsp with ⟨h1,h2⟩ | ⟨h1,hq⟩ | hq
   focus
    rw [h1] at k0;rw [h2] at k1;rw [h1,h2,if_pos rfl] at hct;clear h1 h2;have HCT:=hdz hct;clear hct;go_wp2_with fail
    go_region_held3 (fun w' => w'.cell? ⟨b,o + j * 2,none⟩ = some (.int .i64 x1) ∧ w'.cell? ⟨b,o + j * 2 + 1,none⟩ = some (.int .i64 x2) ∧ w'.cell? ⟨w.heap.size,0,none⟩ = some (.int .i64 x1) ∧ w'.cell? ⟨w.heap.size,1,none⟩ = some (.int .i64 x2)) (go_keep) (fail)
    have hw:wrap64 ((cq:Int) + 1) = ((cq + 1:Nat):Int):=by unfold wrap64;omega
   rotate_left
   focus
    rw [h1] at k0;rw [if_neg (fun e => hq (congrArg Prod.snd e)),Nat.add_zero] at hct;clear h1;have HCT:=hdz hct;clear hct;go_wp2_with fail
    go_region_held3 (fun w' => w'.cell? ⟨b,o + j * 2,none⟩ = some (.int .i64 x1) ∧ w'.cell? ⟨b,o + j * 2 + 1,none⟩ = some (.int .i64 y2) ∧ w'.cell? ⟨w.heap.size,0,none⟩ = some (.int .i64 x1) ∧ w'.cell? ⟨w.heap.size,1,none⟩ = some (.int .i64 x2)) (go_keep) (fail)
   rotate_left
   focus
    rw [if_neg (fun e => hq (congrArg Prod.fst e)),Nat.add_zero] at hct;have HCT:=hdz hct;clear hct;go_wp2_with fail
    go_region_held3 (fun w' => w'.cell? ⟨b,o + j * 2,none⟩ = some (.int .i64 y1) ∧ w'.cell? ⟨b,o + j * 2 + 1,none⟩ = some (.int .i64 y2) ∧ w'.cell? ⟨w.heap.size,0,none⟩ = some (.int .i64 x1) ∧ w'.cell? ⟨w.heap.size,1,none⟩ = some (.int .i64 x2)) (go_keep) (fail)
   rotate_left
   all_goals
    go_wp2_with fail
    go_roundg (n - (j + 1))
    case measure => have:=HJ.out;omega
    case rel => exact ⟨j + 1,by rw [HCT.out];rfl,by first | rfl | (congr 1;done) | (congr 1;unfold wrap64;omega),rfl,hlt,HBB.out.trans (Below.drew (Below.refl _ _) |>.mono HBB.out.size)⟩
  ·have g1:¬ (j:Int) < (n:Int):=by omega
   have hjn:j = n:=by have:=HJ.out.1;omega
   have HCE:=hdz (show cq = xs.count (x1,x2) by rw [HCQ.out,hjn,HN.out.1,List.take_length]);clear hjn;have hb:=HBB.out;have HBx:=hdz (HB.out.trans (hb.mono HB.out.size));have XB:=hdz (XBx.out.stay hb);have A1:=hdz (K.stay A1x.out hb);have VPx:=hdz ((hb.block _ (lt_of_heap VP.out)).trans VP.out);have A2:=hdz (K2.stay A2x.out hb);have VQx:=hdz ((hb.block _ (lt_of_heap VQ.out)).trans VQ.out);clear HB XBx A1x VP A2x VQ hb;go_wp2_with fail
   rw [HN.out.1];refine (sortRw A xs c _ (HX.out.2.2.2.2.1.below HBx.out) (by have:=HX.out.1;omega)).mono ?_;rintro e w121 ⟨sv,rfl,hs,hb⟩;have HB:=hdz (HBx.out.trans (hb.mono HBx.out.size));have XBx:=hdz (XB.out.stay hb);have A1x:=hdz (K.stay A1.out hb);have VP:=hdz ((hb.block _ (lt_of_heap VPx.out)).trans VPx.out);have A2x:=hdz (K2.stay A2.out hb);have VQ:=hdz ((hb.block _ (lt_of_heap VQx.out)).trans VQx.out);clear HBx XB A1 VPx A2 VQx hb;obtain ⟨S,cs,hse, -⟩:=hs.form;subst hse;generalize hl:srt xs = l at *;have hll:l.length = n:=by rw [← hl,srt_length,HN.out.1]
   have HLL:=hdz (anz hl hll);rw [hll];rw [← HN.out.1];have RS:=hdz (hs);clear hs hl hll;go_wp2_with fail
   refine (emptyH K2 _).mono ?_;rintro e w122 ⟨vb,rfl,ha,hb⟩;have HBx:=hdz (HB.out.trans (hb.mono HB.out.size));have XB:=hdz (XBx.out.stay hb);have A1:=hdz (K.stay A1x.out hb);have VPx:=hdz ((hb.block _ (lt_of_heap VP.out)).trans VP.out);have A2:=hdz (K2.stay A2x.out hb);have VQx:=hdz ((hb.block _ (lt_of_heap VQ.out)).trans VQ.out);have RSx:=hdz (RS.out.stay hb);clear HB XBx A1x VP A2x VQ RS hb;have AB:=hdz (ha);clear ha;have HNE:=hdz (anz (lt_of_heap VPx.out) (anz (lt_of_heap VQx.out) (anz XB.out.lt HBx.out.size)));have hb:=(Below.refl w122.heap.size w122).alloc (Nat.le_refl _) (.cells #[.iface T2 vb] 27);have HB:=hdz (HBx.out.trans (hb.mono HBx.out.size));have XBx:=hdz (XB.out.stay hb);have A1x:=hdz (K.stay A1.out hb);have VP:=hdz ((hb.block _ (lt_of_heap VPx.out)).trans VPx.out);have A2x:=hdz (K2.stay A2.out hb);have VQ:=hdz ((hb.block _ (lt_of_heap VQx.out)).trans VQx.out);have RS:=hdz (RSx.out.stay hb);have ABx:=hdz (K2.stay AB.out hb);clear HBx XB A1 VPx A2 VQx RSx AB hb;have VB:=hdz (show (w122.alloc (.cells #[.iface T2 vb] 27)).heap[w122.heap.size]? = some (.cells #[.iface T2 vb] 27 (0,0)) from new_at (by simp));go_wp2_with fail
   generalize w122.alloc (.cells #[.iface T2 vb] 27) = w123 at *;have hw0:wrap64 ((n:Int) - 1) = (n:Int) - 1:=by unfold wrap64;have:=HN4.out;omega
   have HBT:=hdz (But.refl (w122.heap.size) w123);go_loopg [21] n (fun kk i wq => ∃ (t:Nat) (u:Value),i = .int .i64 ((n:Int) - 1 - (t:Int)) ∧ kk = n - t ∧ t ≤ n ∧ wq.heap[w122.heap.size]? = some (.cells #[.iface T2 u] 27 (0,0)) ∧ At2 wq u (srt (l.drop (n - t))) ∧ But (w122.heap.size) w123 wq)
   case atStart => exact ⟨0,vb,by first | rfl | (congr 1;done) | (congr 1;omega),rfl,Nat.zero_le _,VB.out,by rw [Nat.sub_zero,List.drop_of_length_le (by rw [HLL.out.2];exact Nat.le_refl _),srt_nil];exact ABx.out,HBT.out⟩
   case round =>
    obtain ⟨t,u,rfl,hkk,htn,hvb,hab,hbut⟩:=hrel;have HT:=hdz (anz hkk htn);have HVB:=hdz hvb;have HAB:=hdz hab;have HBU:=hdz hbut;clear hkk hvb hab hbut;by_cases hlt:t < n
    ·obtain ⟨j,hj⟩:∃ j:Nat,j + 1 + t = n:=⟨n - 1 - t,by omega⟩;rw [show (n:Int) - 1 - (t:Int) = (j:Int) by omega];have g1:(0:Int) ≤ (j:Int):=by omega
     have g2:decide ((0:Int) ≤ (j:Int)) = true:=decide_eq_true g1;have g3:(j:Int) < (n:Int):=by omega
     obtain ⟨z,hz⟩:∃ z,l[j]? = some z:=⟨_,List.getElem?_eq_getElem (by rw [HLL.out.2];omega)⟩
     have hdr:l.drop j = z :: l.drop (j + 1):=by
      have h1:=List.getElem?_eq_some_iff.1 hz;rw [List.drop_eq_getElem_cons h1.1,h1.2]
     have hzi:in64 z.1 ∧ in64 z.2:=HX.out.2.2.1 z (by
      have h1:z ∈ srt xs:=by rw [HLL.out.1];exact List.mem_of_getElem? hz
      exact (srt_spec xs).2.mem_iff.1 h1)
     have hrs:=RS.out.nv (nv_but HBU.out VB.out);obtain ⟨b9,o9,hA9,k0,k1⟩:=hrs.at j (by rw [HLL.out.2];omega) z hz;subst hA9;obtain ⟨z1,z2⟩:=z;dsimp only at k0 k1
     have c_vb:=one_cell HVB.out;have hjt:n - t = j + 1:=by omega
     have hjt2:n - (t + 1) = j:=by omega
     have hab:=HAB.out;rw [hjt] at hab;have HA9:=hdz (anz hab (anz hdr (anz hzi (anz hjt2 hj))));clear hab hdr hzi hrs hz hjt hjt2;have HC:=hdz (fun (W:World) (hb:Below wr.heap.size wr W) => show Calls Tryz.prog 21 #[.agg #[.iface T2 u],.pointer none,.agg #[.int .i64 z1,.int .i64 z2]] W (fun e w' => ∃ v',e = .returned (.tuple #[.agg #[.iface T2 v'],.int .i64 0]) ∧ At2 w' v' (srt ((z1,z2) :: srt (l.drop (j + 1)))) ∧ Below W.heap.size W w') from insH K2 u (srt (l.drop (j + 1))) (z1,z2) W (K2.stay HA9.out.1 hb) (by rw [srt_length,List.length_drop];have:=HLL.out.2;have:=HN4.out;omega) HA9.out.2.2.1);have HS:=hdz (fun (w':World) (hb:Below wr.heap.size wr w') => (show w'.cell? ⟨w122.heap.size,0,none⟩ = some (.iface T2 u) ∧ w'.cell? ⟨b9,o9 + j * 2,none⟩ = some (.int .i64 z1) ∧ w'.cell? ⟨b9,o9 + j * 2 + 1,none⟩ = some (.int .i64 z2) from ⟨one_cell ((hb.block _ (lt_of_heap HVB.out)).trans HVB.out),(hb.cell (p:=⟨b9,o9 + j * 2,none⟩) (block_lt_of_cell k0)).trans k0,(hb.cell (p:=⟨b9,o9 + j * 2 + 1,none⟩) (block_lt_of_cell k1)).trans k1⟩));clear k0 k1 c_vb;go_wp2_with fail
     refine wp_after (R:=fun x x' w' => ∃ (s93 s94 s95 s96 s97 s98 s92 s99 s100 u5:Value) (g:Nat),x' = (((((((((((x.put (some 93) s93).put (some 94) s94).put (some 95) s95).put (some 96) s96).put (some 97) s97).put (some 98) s98).put (some 92) s92).put (some 99) s99).put (some 100) s100).put (some 22) (.pointer (some ⟨g,0,none⟩))).put (some 23) (.int .i64 0)) ∧ Below wr.heap.size wr w' ∧ wr.heap.size ≤ g ∧ w'.heap[g]? = some (.cells #[.iface T2 u5] 27 (0,0)) ∧ At2 w' u5 (srt ((z1,z2) :: srt (l.drop (j + 1))))) ?_ ?_
     ·have hB:=(Below.refl wr.heap.size wr).drew;refine wp_region_noPanic ?_;refine wp_region_held_drew (S:=fun w' => w'.cell? ⟨w122.heap.size,0,none⟩ = some (.iface T2 u) ∧ w'.cell? ⟨b9,o9 + j * 2,none⟩ = some (.int .i64 z1) ∧ w'.cell? ⟨b9,o9 + j * 2 + 1,none⟩ = some (.int .i64 z2)) (by kernel_rfl) (HS.out _ hB) (fun hH => ?_);generalize wr.drew = wd at *;refine tk 0 hH ?_;try simp only [bkz]
      refine tk 1 hH ?_;try simp only [bkz]
      refine tk 2 hH ?_;try simp only [bkz]
      refine tk 3 hH ?_;try simp only [bkz]
      refine tk 4 hH ?_;try simp only [bkz]
      refine rd2 5 9 (fun K hK => ?_) (fun K hK => ?_)
      ·go_simp;refine (HC.out _ hB).mono ?_;rintro e wc ⟨u5,rfl,hca,hb⟩;have hB:=hB.trans (hb.mono hB.size);refine hK.out _ _ (HS.out _ hB) (fun hH2 => ?_);clear hK K hH;have hH:=hH2;clear hH2;try simp only [bkz]
       refine tk 6 hH ?_;try simp only [bkz]
       refine tk 7 hH ?_;try simp only [bkz]
       refine tk 8 hH ?_;try simp only [bkz]
       refine rd1 9 (fun K hK => ?_);go_simp;refine hK.out _ _ (HS.out _ (hB.alloc hB.size _)) (fun hH2 => ?_);clear hK K hH;have hH:=hH2;clear hH2;try simp only [bkz]
       refine rd1 10 (fun K hK => ?_);go_simp;refine hK.out _ _ (HS.out _ (hB.alloc hB.size _)) (fun hH2 => ?_);clear hK K hH;have hH:=hH2;clear hH2;try simp only [bkz]
       refine tk 11 hH ?_;try simp only [bkz]
       refine dn ?_;exact ⟨rfl,_,_,_,_,_,_,_,_,_,u5,wc.heap.size,by (try simp only [bkz]);rfl,hB.alloc hB.size _,hB.size,heap_alloc_new wc _,K2.stay hca (bqA _)⟩
      ·go_simp;have hF:=heap_alloc_new wd (.cells #[.nilIface] 27);have hsz:=hB.size;have hB:=hB.alloc hB.size (.cells #[.nilIface] 27);refine hK.out _ _ (HS.out _ hB) (fun hH2 => ?_);clear hK K hH;have hH:=hH2;clear hH2;try simp only [bkz]
       generalize wd.alloc (.cells #[.nilIface] 27) = we at *;refine rd1 5 (fun K hK => ?_);go_simp;refine (HC.out _ hB).mono ?_;rintro e wc ⟨u5,rfl,hca,hb⟩;have hB:=hB.trans (hb.mono hB.size);have hF:=(hb.block _ (lt_of_heap hF)).trans hF;refine hK.out _ _ (HS.out _ hB) (fun hH2 => ?_);clear hK K hH;have hH:=hH2;clear hH2;try simp only [bkz]
       refine tk 6 hH ?_;try simp only [bkz]
       refine tk 7 hH ?_;try simp only [bkz]
       refine tk 8 hH ?_;try simp only [bkz]
       have kF:=one_cell hF;have zF:=one_thaw hF;refine rd1 10 (fun K hK => ?_);go_simp;have hB:=hB.setCell (p:=⟨wd.heap.size,0,none⟩) (by show _ ≤ wd.heap.size;omega) (.iface T2 u5);refine hK.out _ _ (HS.out _ hB) (fun hH2 => ?_);clear hK K hH;have hH:=hH2;clear hH2;try simp only [bkz]
       refine tk 11 hH ?_;try simp only [bkz]
       refine dn ?_;exact ⟨rfl,_,_,_,_,_,_,_,_,_,u5,wd.heap.size,by (try simp only [bkz]);rfl,hB,hsz,heap_put1 hF _,K2.keep hca (Kpt.set hF (by decide) 0 (.iface T2 u5)) (by simp [World.setCell])⟩
     ·rintro x' w7 ⟨t93,t94,t95,t96,t97,t98,t92,t99,t100,u5,g5,rfl,hB,hg,hF,hca⟩;try simp only [bkz]
      have hvb7:=(hB.block _ (lt_of_heap HVB.out)).trans HVB.out;have c_g:=one_cell hF;have c_v:=one_cell hvb7;have z_v:=one_thaw hvb7;rw [srt_in,← HA9.out.2.1] at hca;have hwj:wrap64 ((j:Int) - 1) = (j:Int) - 1:=by unfold wrap64;have:=HN4.out;have:=HA9.out.2.2.2.2;omega
      have HE:=hdz (anz (heap_put1 hvb7 (.iface T2 u5)) (anz (K2.keep hca (Kpt.set hvb7 (by decide) 0 (.iface T2 u5)) (by simp [World.setCell])) ((HBU.out.trans (But.ofBelow hB)).setK 0 (.iface T2 u5))));clear hvb7 hB hg hF hca HC HS;go_wp2_with fail
      go_roundg (n - (t + 1))
      case measure => have:=HT.out;omega
      case rel => exact ⟨t + 1,u5,by first | (congr 1;have:=HA9.out.2.2.2.2;omega) | (have:=HA9.out.2.2.2.2;congr 1;push_cast;omega),rfl,hlt,HE.out.1,by rw [HA9.out.2.2.2.1];exact HE.out.2.1,HE.out.2.2⟩
    ·have hjn:t = n:=by omega
     rw [show (n:Int) - 1 - (t:Int) = -1 by omega];have hab:=HAB.out;rw [hjn,Nat.sub_self,List.drop_zero,srt_ordered (by rw [← HLL.out.1];exact (srt_spec xs).1)] at hab;clear hjn;have hbut:=HBU.out;have hk:=nv_but hbut VB.out;have hs:=hbut.size;have HBx:=hdz (hbut.below HB.out (by have:=HNE.out;omega) HB.out.size);have XB:=hdz (show Box2 wr (w.heap.size) 29 (.int .i64 x1) (.int .i64 x2) from hk _ _ _ (by unfold NV;decide) XBx.out);have A1:=hdz (K.keep A1x.out (nv_nh hk) hs);have VPx:=hdz ((hbut.block _ (lt_of_heap VP.out) (by have:=HNE.out;omega)).trans VP.out);have A2:=hdz (K2.keep A2x.out (nv_nh hk) hs);have VQx:=hdz ((hbut.block _ (lt_of_heap VQ.out) (by have:=HNE.out;omega)).trans VQ.out);have RSx:=hdz (RS.out.nv hk);clear HB XBx A1x VP A2x VQ RS ABx VB hk hs hbut;have VB:=HVB;have AB:=hdz (hab);clear HVB hab HBU HAB;go_wp2_with fail
     rw [HN.out.2];refine (sortRw B ys d _ (HX.out.2.2.2.2.2.1.below HBx.out) (by have:=HX.out.2.1;omega)).mono ?_;rintro e w201 ⟨sv2,rfl,hs,hb⟩;have HB:=hdz (HBx.out.trans (hb.mono HBx.out.size));have XBx:=hdz (XB.out.stay hb);have A1x:=hdz (K.stay A1.out hb);have VP:=hdz ((hb.block _ (lt_of_heap VPx.out)).trans VPx.out);have A2x:=hdz (K2.stay A2.out hb);have VQ:=hdz ((hb.block _ (lt_of_heap VQx.out)).trans VQx.out);have RS:=hdz (RSx.out.stay hb);have VBx:=hdz ((hb.block _ (lt_of_heap VB.out)).trans VB.out);have ABx:=hdz (K2.stay AB.out hb);clear HBx XB A1 VPx A2 VQx RSx VB AB hb;obtain ⟨S2,cs2,hse, -⟩:=hs.form;subst hse;have R2:=hdz (hs);clear hs;rw [← HN.out.2];go_wp2_with fail
     obtain ⟨A91,c91,e91,hr91, -⟩:=RS.out.form
     cases e91
     obtain ⟨A92,c92,e92,hr92, -⟩:=R2.out.form
     cases e92
     have HSM:=same_any S S2 l (srt ys) cs cs2 _ (by rw [HLL.out.2];have:=HN4.out;omega) hr91 hr92;clear hr91 hr92;rw [HLL.out.2] at HSM;obtain ⟨sm,hsm⟩:=exq (decide (l = srt ys));rw [← hsm] at HSM;have HSE:=hdz hsm;clear hsm;refine (HSM).mono ?_;rintro e w202 ⟨rfl,hb⟩;have HBx:=hdz (HB.out.trans (hb.mono HB.out.size));have XB:=hdz (XBx.out.stay hb);have A1:=hdz (K.stay A1x.out hb);have VPx:=hdz ((hb.block _ (lt_of_heap VP.out)).trans VP.out);have A2:=hdz (K2.stay A2x.out hb);have VQx:=hdz ((hb.block _ (lt_of_heap VQ.out)).trans VQ.out);have RSx:=hdz (RS.out.stay hb);have VB:=hdz ((hb.block _ (lt_of_heap VBx.out)).trans VBx.out);have AB:=hdz (K2.stay ABx.out hb);have R2x:=hdz (R2.out.stay hb);clear HB XBx A1x VP A2x VQ RS VBx ABx R2 hb;have c_VP:=one_cell VPx.out;have c_XB:=XB.out.c0;have d_XB:=XB.out.c1;go_wp2_with fail
     have HCT:=hdz (show (l.count (x1,x2):Nat) = cq from by rw [HCE.out,← HLL.out.1];exact (srt_spec xs).2.count_eq _);refine (count_any K v1 l (x1,x2) _ A1.out (by rw [HLL.out.2];have:=HN4.out;omega) (by rw [← HLL.out.1];exact (srt_spec xs).1)).mono ?_;rintro e w203 ⟨rfl,hb⟩;have HB:=hdz (HBx.out.trans (hb.mono HBx.out.size));have XBx:=hdz (XB.out.stay hb);have A1x:=hdz (K.stay A1.out hb);have VP:=hdz ((hb.block _ (lt_of_heap VPx.out)).trans VPx.out);have A2x:=hdz (K2.stay A2.out hb);have VQ:=hdz ((hb.block _ (lt_of_heap VQx.out)).trans VQx.out);have RS:=hdz (RSx.out.stay hb);have VBx:=hdz ((hb.block _ (lt_of_heap VB.out)).trans VB.out);have ABx:=hdz (K2.stay AB.out hb);have R2:=hdz (R2x.out.stay hb);clear HBx XB A1 VPx A2 VQx RSx VB AB R2x hb;rw [HCT.out];clear HCT;clear c_VP c_XB d_XB;have c_VP:=one_cell VP.out;have c_VQ:=one_cell VQ.out;go_wp2_with fail
     refine (same_any2 K K2 v1 v2 l (srt ys) _ A1x.out A2x.out (by rw [HLL.out.2];have:=HN4.out;omega)).mono ?_;rintro e w204 ⟨rfl,hb⟩;have HBx:=hdz (HB.out.trans (hb.mono HB.out.size));have XB:=hdz (XBx.out.stay hb);have A1:=hdz (K.stay A1x.out hb);have VPx:=hdz ((hb.block _ (lt_of_heap VP.out)).trans VP.out);have A2:=hdz (K2.stay A2x.out hb);have VQx:=hdz ((hb.block _ (lt_of_heap VQ.out)).trans VQ.out);have RSx:=hdz (RS.out.stay hb);have VB:=hdz ((hb.block _ (lt_of_heap VBx.out)).trans VBx.out);have AB:=hdz (K2.stay ABx.out hb);have R2x:=hdz (R2.out.stay hb);clear HB XBx A1x VP A2x VQ RS VBx ABx R2 hb;rw [← HSE.out];clear c_VP c_VQ;have c_VP:=one_cell VPx.out;have c_VQ:=one_cell VQx.out;go_wp2_with fail
     refine (same_any2 K2 K v2 v1 (srt ys) l _ A2.out A1.out (by rw [srt_length];have:=HX.out.2.1;omega)).mono ?_;rintro e w205 ⟨rfl,hb⟩;have HB:=hdz (HBx.out.trans (hb.mono HBx.out.size));have XBx:=hdz (XB.out.stay hb);have A1x:=hdz (K.stay A1.out hb);have VP:=hdz ((hb.block _ (lt_of_heap VPx.out)).trans VPx.out);have A2x:=hdz (K2.stay A2.out hb);have VQ:=hdz ((hb.block _ (lt_of_heap VQx.out)).trans VQx.out);have RS:=hdz (RSx.out.stay hb);have VBx:=hdz ((hb.block _ (lt_of_heap VB.out)).trans VB.out);have ABx:=hdz (K2.stay AB.out hb);have R2:=hdz (R2x.out.stay hb);clear HBx XB A1 VPx A2 VQx RSx VB AB R2x hb;rw [show decide (srt ys = l) = sm by rw [HSE.out];exact decide_eq_decide.2 eq_comm];clear c_VP c_VQ;have c_VP:=one_cell VP.out;have c_VB:=one_cell VBx.out;go_wp2_with fail
     refine (same_any2 K K2 v1 u l l _ A1x.out ABx.out (by rw [HLL.out.2];have:=HN4.out;omega)).mono ?_;rintro e w206 ⟨rfl,hb⟩;have HBx:=hdz (HB.out.trans (hb.mono HB.out.size));have XB:=hdz (XBx.out.stay hb);have A1:=hdz (K.stay A1x.out hb);have VPx:=hdz ((hb.block _ (lt_of_heap VP.out)).trans VP.out);have A2:=hdz (K2.stay A2x.out hb);have VQx:=hdz ((hb.block _ (lt_of_heap VQ.out)).trans VQ.out);have RSx:=hdz (RS.out.stay hb);have VB:=hdz ((hb.block _ (lt_of_heap VBx.out)).trans VBx.out);have AB:=hdz (K2.stay ABx.out hb);have R2x:=hdz (R2.out.stay hb);clear HB XBx A1x VP A2x VQ RS VBx ABx R2 hb;rw [show decide (l = l) = true from decide_eq_true rfl];obtain ⟨em,hem⟩:=exq (decide (n = 0));have he1:((n:Int) == 0) = em:=by rw [hem];cases n <;> simp <;> omega
     have he2:(n == 0) = em:=by rw [hem];cases n <;> simp
     have HEM:=hdz hem;clear hem;clear c_VP c_VB;have c_VP:=one_cell VPx.out;go_wp2_with fail
     refine (same_nil K v1 l _ A1.out).mono ?_;rintro e w207 ⟨rfl,hb⟩;have HB:=hdz (HBx.out.trans (hb.mono HBx.out.size));have XBx:=hdz (XB.out.stay hb);have A1x:=hdz (K.stay A1.out hb);have VP:=hdz ((hb.block _ (lt_of_heap VPx.out)).trans VPx.out);have A2x:=hdz (K2.stay A2.out hb);have VQ:=hdz ((hb.block _ (lt_of_heap VQx.out)).trans VQx.out);have RS:=hdz (RSx.out.stay hb);have VBx:=hdz ((hb.block _ (lt_of_heap VB.out)).trans VB.out);have ABx:=hdz (K2.stay AB.out hb);have R2:=hdz (R2x.out.stay hb);clear HBx XB A1 VPx A2 VQx RSx VB AB R2x hb;rw [show decide (l = []) = em by rw [← HLL.out.1,srt_none,← HN.out.1,HEM.out]];clear c_VP;have c_XB:=XBx.out.c0;have d_XB:=XBx.out.c1;go_wp2_with fail
     refine (count_nil (x1,x2) _).mono ?_;rintro e w208 ⟨rfl,hb⟩;have HBx:=hdz (HB.out.trans (hb.mono HB.out.size));have XB:=hdz (XBx.out.stay hb);have A1:=hdz (K.stay A1x.out hb);have VPx:=hdz ((hb.block _ (lt_of_heap VP.out)).trans VP.out);have A2:=hdz (K2.stay A2x.out hb);have VQx:=hdz ((hb.block _ (lt_of_heap VQ.out)).trans VQ.out);have RSx:=hdz (RS.out.stay hb);have VB:=hdz ((hb.block _ (lt_of_heap VBx.out)).trans VBx.out);have AB:=hdz (K2.stay ABx.out hb);have R2x:=hdz (R2.out.stay hb);clear HB XBx A1x VP A2x VQ RS VBx ABx R2 hb;go_wp2_with fail
     refine bodyPost_ret (v := .bool true) (by simp [results,Tryz.results4,go_sem]) rfl ⟨rfl,HBx.out⟩
theorem counts_any (k k2:Int) (A:Option Addr) (xs:List (Int × Int)) (c:Nat) (B:Option Addr) (ys:List (Int × Int)) (d:Nat) (x1 x2:Int) (w:World) (fx:fits xs) (fy:fits ys) (hr:Row w A xs) (hr2:Row w B ys) (hxe:in64 x1 ∧ in64 x2):Calls Tryz.prog 4 #[.int .i64 k,.int .i64 k2,.slice A xs.length c,.slice B ys.length d,.agg #[.int .i64 x1,.int .i64 x2]] w fun e w' => e = .returned (.bool true) ∧ Below w.heap.size w w':=by
 by_cases h:40 < xs.length ∨ 40 < ys.length ∨ k < 1 ∨ 6 < k ∨ k2 < 1 ∨ 6 < k2
 ·exact counts_out k k2 A B _ _ c d x1 x2 w h
 obtain ⟨T,fI,fM,fN,fP,fS,At,K⟩:=kind_of k ⟨by omega,by omega⟩;obtain ⟨T2,fI2,fM2,fN2,fP2,fS2,At2,K2⟩:=kind_of k2 ⟨by omega,by omega⟩;exact counts_good K K2 A xs c B ys d x1 x2 w ⟨by omega,by omega⟩ ⟨by omega,by omega⟩ (by omega) (by omega) fx fy hr hr2 hxe
end Go.Proofs.YtmeodbjlmjpnbaaGreat
