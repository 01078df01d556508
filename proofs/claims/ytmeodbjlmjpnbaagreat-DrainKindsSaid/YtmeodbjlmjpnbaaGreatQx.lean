/- DrainKinds holds: of every two kinds, of every row of elements and every byte: it returns true, and nothing that was there has changed. -/
import Derived.Test.YtmeodbjlmjpnbaaGreatPd
import Derived.Test.YtmeodbjlmjpnbaaGreatPa
set_option maxRecDepth 100000
set_option maxHeartbeats 8000000
namespace Go.Proofs.YtmeodbjlmjpnbaaGreat
open Go.Sort Go.RowKit
theorem top_nat {k:Int} {T:TypeId} {fI fM fN fP fS:FuncId} {At:World → Value → List (Int × Int) → Prop} (K:KindC k T fI fM fN fP fS At) (hk:1 ≤ k) (v:Value) (l:List (Int × Int)) (z:Nat) (w:World) (ha:At w v l) (hl:l.length < 16777216) :
  Calls Tryz.prog 13 #[.pointer none,.agg #[.iface T v],.int .i64 (z:Int)] w fun e w' => ∃ sv,e = .returned (.tuple #[sv,.int .i64 0]) ∧ Rw w' sv (l.take z) ∧ Below w.heap.size w w':=by
 by_cases h0:z = 0 ∨ l.length = 0
 ·refine (top_zero K hk v l z 0 w ha hl (by omega) rfl).mono fun e w' ⟨he,hb⟩ => ⟨_,he,?_,hb⟩;rw [show l.take z = [] from List.eq_nil_of_length_eq_zero (by rw [List.length_take];omega)];exact Rw.none _
 ·by_cases h1:z ≤ l.length
  ·exact (top_some K hk v l z z w ha hl (.inl ⟨h1,rfl⟩) (by omega)).mono fun e w' ⟨sv,he,hown,hb⟩ => ⟨sv,he,hown.rw,hb⟩
  ·refine (top_some K hk v l z l.length w ha hl (.inr ⟨by omega,rfl⟩) (by omega)).mono fun e w' ⟨sv,he,hown,hb⟩ => ⟨sv,he,?_,hb⟩;rw [List.take_of_length_le (by omega),← List.take_length (l:=l)];exact hown.rw
theorem same_rw (u v:Value) (xs ys:List (Int × Int)) (w:World) (hx:xs.length < 2147483648) (ha:Rw w u xs) (hb:Rw w v ys):Calls Tryz.prog 15 #[u,v] w fun e w' => e = .returned (.bool (decide (xs = ys))) ∧ Below w.heap.size w w':=by
 obtain ⟨A,ka,rfl,hra, -⟩:=ha.form;obtain ⟨B,kb,rfl,hrb, -⟩:=hb.form;exact same_any A B xs ys ka kb w hx hra hrb
theorem dkinds_out (k k2:Int) (A:Option Addr) (n c:Nat) (q:Int) (w:World) (h:40 < n ∨ k < 1 ∨ 6 < k ∨ k2 < 1 ∨ 6 < k2):Calls Tryz.prog 7 #[.int .i64 k,.int .i64 k2,.slice A n c,.int .u8 q] w fun e w' => e = .returned (.bool true) ∧ Below w.heap.size w w':=by
 have h':40 < n ∨ (¬ 40 < n ∧ k < 1) ∨ (¬ 40 < n ∧ ¬ k < 1 ∧ 6 < k) ∨ (¬ 40 < n ∧ ¬ k < 1 ∧ ¬ 6 < k ∧ k2 < 1) ∨ (¬ 40 < n ∧ ¬ k < 1 ∧ ¬ 6 < k ∧ ¬ k2 < 1 ∧ 6 < k2):=by omega
 clear h;rcases h' with h1 | ⟨h1,h2⟩ | ⟨h1,h2,h3⟩ | ⟨h1,h2,h3,h4⟩ | ⟨h1,h2,h3,h4,h5⟩
 all_goals
  have i1:((40:Int) < (n:Int)) = (40 < n):=by simp only [eq_iff_iff];omega
  go_enter Tryz.func7,Tryz.ntmps7
  go_wp2_with fail
  refine (awake_any _).mono ?_;rintro e w1 ⟨rfl,hb⟩;go_wp2_with fail
  refine bodyPost_ret (v := .bool true) (by simp [results,Tryz.results7,go_sem]) rfl ⟨rfl,hb⟩
theorem dkinds_good {k:Int} {T:TypeId} {fI fM fN fP fS:FuncId} {At:World → Value → List (Int × Int) → Prop} (K:KindC k T fI fM fN fP fS At) {k2:Int} {T2:TypeId} {fI2 fM2 fN2 fP2 fS2:FuncId} {At2:World → Value → List (Int × Int) → Prop} (K2:KindC k2 T2 fI2 fM2 fN2 fP2 fS2 At2) (A:Option Addr) (xs:List (Int × Int)) (c:Nat) (q:Nat) (w:World) (hk:1 ≤ k ∧ k ≤ 6) (hk2:1 ≤ k2 ∧ k2 ≤ 6) (hxl:xs.length ≤ 40) (fx:fits xs) (hr:Row w A xs) (hq:q ≤ 255):Calls Tryz.prog 7 #[.int .i64 k,.int .i64 k2,.slice A xs.length c,.int .u8 (q:Int)] w fun e w' => e = .returned (.bool true) ∧ Below w.heap.size w w':=by
 have HB:=hdz (Below.refl w.heap.size w);have HX:=hdz (anz hxl (anz fx hr));obtain ⟨n,hn⟩:=exq (xs.length);rw [← hn];have hn1:¬ k < 1:=by omega
 have hn2:¬ 6 < k:=by omega
 have hn3:¬ k2 < 1:=by omega
 have hn4:¬ 6 < k2:=by omega
 have l1:¬ 40 < n:=by omega
 have i1:((40:Int) < (n:Int)) = (40 < n):=by simp only [eq_iff_iff];omega
 have HN:=hdz hn;have HN4:=hdz (show n ≤ 40 by omega);have HKK:=hdz (anz hk.1 hk2.1);clear hk hk2 hxl fx hr hn;go_enter Tryz.func7,Tryz.ntmps7
 go_wp2_with fail
 refine (awake_any _).mono ?_;rintro e w1 ⟨rfl,hb⟩;have HBx:=hdz (HB.out.trans (hb.mono HB.out.size));clear HB hb;go_wp2_with fail
 have hw0:wrap64 ((n:Int) - 1) = (n:Int) - 1:=by unfold wrap64;have:=HN4.out;omega
 have HOW:=hdz (anz (Own.none w1 w1.heap.size) (Below.refl w1.heap.size w1));go_loopg [10,11] n (fun kk mv i wr => ∃ (t:Nat),i = .int .i64 ((n:Int) - 1 - (t:Int)) ∧ kk = n - t ∧ t ≤ n ∧ Own wr w1.heap.size mv (xs.reverse.take t) ∧ Below w1.heap.size w1 wr)
 case atStart => exact ⟨0,by first | rfl | (congr 1;done) | (congr 1;omega),rfl,Nat.zero_le _,HOW.out.1,HOW.out.2⟩
 case round =>
  obtain ⟨t,rfl,hkk,htn,hown,hbb⟩:=hrel;have HT:=hdz (anz hkk htn);have HBB:=hdz hbb;by_cases hlt:t < n
  ·obtain ⟨j,hj⟩:∃ j:Nat,j + 1 + t = n:=⟨n - 1 - t,by omega⟩;rw [show (n:Int) - 1 - (t:Int) = (j:Int) by omega];have g1:(0:Int) ≤ (j:Int):=by omega
   have g2:decide ((0:Int) ≤ (j:Int)) = true:=decide_eq_true g1;have g3:(j:Int) < (n:Int):=by omega
   obtain ⟨b,o,hA,hce⟩:=(HX.out.2.2.below (HBx.out.trans (hbb.mono HBx.out.size))) (by have:=HN.out;omega);subst hA;have e1:=row_at hce j (by have:=HN.out;omega);obtain ⟨z,hz⟩:∃ z,z = xs[j]'(by have:=HN.out;omega):=⟨_,rfl⟩;rw [← hz] at e1;obtain ⟨z1,z2⟩:=z;have k0:=e1.1;have k1:=e1.2;dsimp only at k0 k1
   have hnext:xs.reverse.take (t + 1) = xs.reverse.take t ++ [(z1,z2)]:=by
    rw [List.take_add_one,List.getElem?_eq_getElem (by rw [List.length_reverse];have:=HN.out;omega),List.getElem_reverse,hz];simp only [Option.toList_some,List.append_cancel_left_eq,List.cons.injEq,and_true];congr 1
    have:=HN.out;omega
   obtain ⟨sv2,w2,hrun,hown2,hb2⟩:=append_one wr w1.heap.size u10 (xs.reverse.take t) (z1,z2) hown (by rw [List.length_take];have:=HN4.out;omega) hbb.size;rw [← hnext] at hown2;have HO:=hdz (anz hown2 (hbb.trans hb2));have hwj:wrap64 ((j:Int) - 1) = (j:Int) - 1:=by unfold wrap64;have:=HN4.out;omega
   have HJ:=hdz hj;clear hkk htn hown hbb hce e1 hz hnext hown2 hb2 hj;go_wp2_with (at_builtin;refine wpList_append_run rfl _ _ _ rfl _ _ _ _ rfl rfl hrun ?_)
   go_roundg (n - (t + 1))
   case measure => have:=HT.out;omega
   case rel => exact ⟨t + 1,by have:=HJ.out;congr 1;push_cast;omega,rfl,hlt,HO.out.1,HO.out.2⟩
  ·have hjn:t = n:=by omega
   rw [show (n:Int) - 1 - (t:Int) = -1 by omega];rw [hjn,List.take_of_length_le (by rw [List.length_reverse,← HN.out];exact Nat.le_refl _)] at hown;clear hjn hkk htn;have hb:=hbb;clear hbb;obtain ⟨M7,c7,rfl,hrm, -⟩:=hown.form;have hlr:xs.reverse.length = n:=by rw [List.length_reverse,HN.out]
   have HLR:=hdz hlr;rw [hlr];clear hlr;have HB:=hdz (HBx.out.trans (hb.mono HBx.out.size));clear HBx hb;have RM:=hdz (hown.rw);clear hown hrm;go_wp2_with fail
   rw [HN.out];refine (K.of A xs c _ (HX.out.2.2.below HB.out) (by have:=HX.out.1;omega) HX.out.2.1).mono ?_;rintro e w101 ⟨v1,rfl,ha,hb⟩;have HBx:=hdz (HB.out.trans (hb.mono HB.out.size));have RMx:=hdz (RM.out.stay hb);clear HB RM hb;generalize hl:srt xs = l at *;have hll:l.length = n:=by rw [← hl,srt_length,HN.out]
   have HLL:=hdz (anz hl hll);rw [← HN.out];clear hl hll;have A1:=hdz (ha);clear ha;have hb:=(Below.refl w101.heap.size w101).alloc (Nat.le_refl _) (.cells #[.iface T v1] 27);have HB:=hdz (HBx.out.trans (hb.mono HBx.out.size));have RM:=hdz (RMx.out.stay hb);have A1x:=hdz (K.stay A1.out hb);clear HBx RMx A1 hb;have VX:=hdz (show (w101.alloc (.cells #[.iface T v1] 27)).heap[w101.heap.size]? = some (.cells #[.iface T v1] 27 (0,0)) from new_at (by simp));go_wp2_with fail
   generalize w101.alloc (.cells #[.iface T v1] 27) = w102 at *;obtain ⟨M8,c8,e8,hrm, -⟩:=RM.out.form
   cases e8
   have HC:=K2.of M7 xs.reverse c7 _ hrm (by rw [HLR.out];have:=HN4.out;omega) (fun y hy => HX.out.2.1 y (List.mem_reverse.1 hy));rw [srt_perm (List.reverse_perm xs),HLL.out.1,HLR.out] at HC;clear hrm;refine (HC).mono ?_;rintro e w103 ⟨v2,rfl,ha,hb⟩;have HBx:=hdz (HB.out.trans (hb.mono HB.out.size));have RMx:=hdz (RM.out.stay hb);have A1:=hdz (K.stay A1x.out hb);have VXx:=hdz ((hb.block _ (lt_of_heap VX.out)).trans VX.out);clear HB RM A1x VX hb;clear HC;have A2:=hdz (ha);clear ha;clear RMx;have hb:=(Below.refl w103.heap.size w103).alloc (Nat.le_refl _) (.cells #[.iface T2 v2] 27);have HB:=hdz (HBx.out.trans (hb.mono HBx.out.size));have A1x:=hdz (K.stay A1.out hb);have VX:=hdz ((hb.block _ (lt_of_heap VXx.out)).trans VXx.out);have A2x:=hdz (K2.stay A2.out hb);clear HBx A1 VXx A2 hb;have VY:=hdz (show (w103.alloc (.cells #[.iface T2 v2] 27)).heap[w103.heap.size]? = some (.cells #[.iface T2 v2] 27 (0,0)) from new_at (by simp));have c_VX:=one_cell VX.out;go_wp2_with fail
   clear c_VX;generalize w103.alloc (.cells #[.iface T2 v2] 27) = w104 at *;refine (top_nat K HKK.out.1 v1 l q _ A1x.out (by rw [HLL.out.2];have:=HN4.out;omega)).mono ?_;rintro e w105 ⟨pv,rfl,hp,hb⟩;have HBx:=hdz (HB.out.trans (hb.mono HB.out.size));have A1:=hdz (K.stay A1x.out hb);have VXx:=hdz ((hb.block _ (lt_of_heap VX.out)).trans VX.out);have A2:=hdz (K2.stay A2x.out hb);have VYx:=hdz ((hb.block _ (lt_of_heap VY.out)).trans VY.out);clear HB A1x VX A2x VY hb;have RP:=hdz (hp);clear hp;have c_VY:=one_cell VYx.out;go_wp2_with fail
   clear c_VY;refine (top_nat K2 HKK.out.2 v2 l q _ A2.out (by rw [HLL.out.2];have:=HN4.out;omega)).mono ?_;rintro e w106 ⟨qv,rfl,hp,hb⟩;have HB:=hdz (HBx.out.trans (hb.mono HBx.out.size));have A1x:=hdz (K.stay A1.out hb);have VX:=hdz ((hb.block _ (lt_of_heap VXx.out)).trans VXx.out);have A2x:=hdz (K2.stay A2.out hb);have VY:=hdz ((hb.block _ (lt_of_heap VYx.out)).trans VYx.out);have RPx:=hdz (RP.out.stay hb);clear HBx A1 VXx A2 VYx RP hb;have RQ:=hdz (hp);clear hp;have c_VX:=one_cell VX.out;have c_VY:=one_cell VY.out;go_wp2_with fail
   clear c_VX c_VY;refine wp_region_noPanic ?_;have hb:=(Below.refl w106.heap.size w106).drew;have HBx:=hdz (HB.out.trans (hb.mono HB.out.size));have A1:=hdz (K.stay A1x.out hb);have VXx:=hdz ((hb.block _ (lt_of_heap VX.out)).trans VX.out);have A2:=hdz (K2.stay A2x.out hb);have VYx:=hdz ((hb.block _ (lt_of_heap VY.out)).trans VY.out);have RP:=hdz (RPx.out.stay hb);have RQx:=hdz (RQ.out.stay hb);clear HB A1x VX A2x VY RPx RQ hb;refine wp_region_held_drew (S:=fun w' => w'.cell? ⟨w101.heap.size,0,none⟩ = some (.iface T v1) ∧ w'.cell? ⟨w103.heap.size,0,none⟩ = some (.iface T2 v2)) (by kernel_rfl) ⟨one_cell VXx.out,one_cell VYx.out⟩ (fun hH => ?_);generalize w106.drew = w107 at *;refine tk 0 hH ?_;try simp only [bkz]
   refine tk 1 hH ?_;try simp only [bkz]
   refine tk 2 hH ?_;try simp only [bkz]
   refine tk 3 hH ?_;try simp only [bkz]
   refine tk 4 hH ?_;try simp only [bkz]
   refine tk 5 hH ?_;try simp only [bkz]
   refine tk 6 hH ?_;try simp only [bkz]
   refine tk 7 hH ?_;try simp only [bkz]
   refine tk 8 hH ?_;try simp only [bkz]
   refine tk 9 hH ?_;try simp only [bkz]
   refine tk 10 hH ?_;try simp only [bkz]
   refine tk 11 hH ?_;try simp only [bkz]
   refine tk 12 hH ?_;try simp only [bkz]
   refine tk 13 hH ?_;try simp only [bkz]
   refine tk 14 hH ?_;try simp only [bkz]
   refine tk 15 hH ?_;try simp only [bkz]
   refine tk 16 hH ?_;try simp only [bkz]
   refine rd1 17 (fun K9 hK => ?_);go_simp;refine (same_rw pv qv (l.take q) (l.take q) _ (by rw [List.length_take];have:=HLL.out.2;have:=HN4.out;omega) RP.out RQx.out).mono ?_;rintro e w108 ⟨rfl,hb⟩;have HB:=hdz (HBx.out.trans (hb.mono HBx.out.size));have A1x:=hdz (K.stay A1.out hb);have VX:=hdz ((hb.block _ (lt_of_heap VXx.out)).trans VXx.out);have A2x:=hdz (K2.stay A2.out hb);have VY:=hdz ((hb.block _ (lt_of_heap VYx.out)).trans VYx.out);have RPx:=hdz (RP.out.stay hb);have RQ:=hdz (RQx.out.stay hb);clear HBx A1 VXx A2 VYx RP RQx hb;rw [show decide (l.take q = l.take q) = true from decide_eq_true rfl];refine hK.out _ _ ⟨one_cell VX.out,one_cell VY.out⟩ (fun hH2 => ?_);clear hK K9 hH;have hH:=hH2;clear hH2;try simp only [bkz]
   refine tk 18 hH ?_;try simp only [bkz]
   refine tk 19 hH ?_;try simp only [bkz]
   refine tk 20 hH ?_;try simp only [bkz]
   refine tk 22 hH ?_;try simp only [bkz]
   refine rd1 21 (fun K9 hK => ?_);go_simp;refine (sorted_any K v1 l _ A1x.out (by rw [HLL.out.2];have:=HN4.out;omega)).mono ?_;rintro e w109 ⟨sx,rfl,hown,hb⟩;have HBx:=hdz (HB.out.trans (hb.mono HB.out.size));have A1:=hdz (K.stay A1x.out hb);have VXx:=hdz ((hb.block _ (lt_of_heap VX.out)).trans VX.out);have A2:=hdz (K2.stay A2x.out hb);have VYx:=hdz ((hb.block _ (lt_of_heap VY.out)).trans VY.out);have RP:=hdz (RPx.out.stay hb);have RQx:=hdz (RQ.out.stay hb);clear HB A1x VX A2x VY RPx RQ hb;have S1:=hdz (hown.rw);clear hown;refine hK.out _ _ ⟨one_cell VXx.out,one_cell VYx.out⟩ (fun hH2 => ?_);clear hK K9 hH;have hH:=hH2;clear hH2;try simp only [bkz]
   refine rd1 23 (fun K9 hK => ?_);go_simp;refine (sorted_any K2 v2 l _ A2.out (by rw [HLL.out.2];have:=HN4.out;omega)).mono ?_;rintro e w110 ⟨sy,rfl,hown,hb⟩;have HB:=hdz (HBx.out.trans (hb.mono HBx.out.size));have A1x:=hdz (K.stay A1.out hb);have VX:=hdz ((hb.block _ (lt_of_heap VXx.out)).trans VXx.out);have A2x:=hdz (K2.stay A2.out hb);have VY:=hdz ((hb.block _ (lt_of_heap VYx.out)).trans VYx.out);have RPx:=hdz (RP.out.stay hb);have RQ:=hdz (RQx.out.stay hb);have S1x:=hdz (S1.out.stay hb);clear HBx A1 VXx A2 VYx RP RQx S1 hb;have S2:=hdz (hown.rw);clear hown;refine hK.out _ _ ⟨one_cell VX.out,one_cell VY.out⟩ (fun hH2 => ?_);clear hK K9 hH;have hH:=hH2;clear hH2;try simp only [bkz]
   refine rd1 24 (fun K9 hK => ?_);go_simp;refine (same_rw sx sy l l _ (by rw [HLL.out.2];have:=HN4.out;omega) S1x.out S2.out).mono ?_;rintro e w111 ⟨rfl,hb⟩;have HBx:=hdz (HB.out.trans (hb.mono HB.out.size));have A1:=hdz (K.stay A1x.out hb);have VXx:=hdz ((hb.block _ (lt_of_heap VX.out)).trans VX.out);have A2:=hdz (K2.stay A2x.out hb);have VYx:=hdz ((hb.block _ (lt_of_heap VY.out)).trans VY.out);have RP:=hdz (RPx.out.stay hb);have RQx:=hdz (RQ.out.stay hb);have S1:=hdz (S1x.out.stay hb);have S2x:=hdz (S2.out.stay hb);clear HB A1x VX A2x VY RPx RQ S1x S2 hb;rw [show decide (l = l) = true from decide_eq_true rfl];refine hK.out _ _ ⟨one_cell VXx.out,one_cell VYx.out⟩ (fun hH2 => ?_);clear hK K9 hH;have hH:=hH2;clear hH2;try simp only [bkz]
   refine tk 25 hH ?_;try simp only [bkz]
   refine tk 26 hH ?_;try simp only [bkz]
   refine tk 27 hH ?_;try simp only [bkz]
   refine tk 28 hH ?_;try simp only [bkz]
   refine rd1 29 (fun K9 hK => ?_);go_simp;refine (same_any2 K K2 v1 v2 l l _ A1.out A2.out (by rw [HLL.out.2];have:=HN4.out;omega)).mono ?_;rintro e w112 ⟨rfl,hb⟩;have HB:=hdz (HBx.out.trans (hb.mono HBx.out.size));have A1x:=hdz (K.stay A1.out hb);have VX:=hdz ((hb.block _ (lt_of_heap VXx.out)).trans VXx.out);have A2x:=hdz (K2.stay A2.out hb);have VY:=hdz ((hb.block _ (lt_of_heap VYx.out)).trans VYx.out);have RPx:=hdz (RP.out.stay hb);have RQ:=hdz (RQx.out.stay hb);have S1x:=hdz (S1.out.stay hb);have S2:=hdz (S2x.out.stay hb);clear HBx A1 VXx A2 VYx RP RQx S1 S2x hb;rw [show decide (l = l) = true from decide_eq_true rfl];refine hK.out _ _ ⟨one_cell VX.out,one_cell VY.out⟩ (fun hH2 => ?_);clear hK K9 hH;have hH:=hH2;clear hH2;try simp only [bkz]
   refine tk 30 hH ?_;try simp only [bkz]
   refine tk 31 hH ?_;try simp only [bkz]
   refine tk 32 hH ?_;try simp only [bkz]
   refine tk 35 hH ?_;try simp only [bkz]
   have hlo:=HB.out.size;refine rd1 33 (fun K9 hK => ?_);go_simp;refine (dof_any T v1 _).mono ?_;rintro e w113 ⟨rfl,hd,hb⟩;have HBx:=hdz (HB.out.trans (hb.mono HB.out.size));have A1:=hdz (K.stay A1x.out hb);have VXx:=hdz ((hb.block _ (lt_of_heap VX.out)).trans VX.out);have A2:=hdz (K2.stay A2x.out hb);have VYx:=hdz ((hb.block _ (lt_of_heap VY.out)).trans VY.out);have RP:=hdz (RPx.out.stay hb);have RQx:=hdz (RQ.out.stay hb);have S1:=hdz (S1x.out.stay hb);have S2x:=hdz (S2.out.stay hb);clear HB A1x VX A2x VY RPx RQ S1x S2 hb;have Da:=hdz (hd);clear hd;refine hK.out _ _ ⟨one_cell VXx.out,one_cell VYx.out⟩ (fun hH2 => ?_);clear hK K9 hH;have hH:=hH2;clear hH2;try simp only [bkz]
   generalize hbd:w112.heap.size + 1 = ba at *;have HLOa:=hdz (show w.heap.size ≤ ba by omega);clear hlo hbd;refine rd1 34 (fun K9 hK => ?_);go_simp;refine (all_first K ba v1 l _ Da.out A1.out (by rw [HLL.out.2];have:=HN4.out;omega)).mono ?_;rintro e w114 ⟨ra,Ea,ca,Ba,rfl,hdr,hown,hbut,hBa,hbBa,hABa⟩;have hk:=nd_but hbut Da.out;have hs:=hbut.size;have HB:=hdz (hbut.below HBx.out (HLOa.out) (HBx.out.size));have A1x:=hdz (K.keep A1.out (nd_nh hk) hs);have VX:=hdz (var_nd VXx.out hk);have A2x:=hdz (K2.keep A2.out (nd_nh hk) hs);have VY:=hdz (var_nd VYx.out hk);have RPx:=hdz (RP.out.kpt hk);have RQ:=hdz (RQx.out.kpt hk);have S1x:=hdz (S1.out.kpt hk);have S2:=hdz (S2x.out.kpt hk);clear HBx A1 VXx A2 VYx RP RQx S1 S2x Da hk hs hbut;have Va:=hdz (hown.rw);clear hown hdr hBa hbBa hABa;refine hK.out _ _ ⟨one_cell VX.out,one_cell VY.out⟩ (fun hH2 => ?_);clear hK K9 hH;have hH:=hH2;clear hH2;try simp only [bkz]
   have hlo:=HB.out.size;refine rd1 36 (fun K9 hK => ?_);go_simp;refine (dof_any T2 v2 _).mono ?_;rintro e w115 ⟨rfl,hd,hb⟩;have HBx:=hdz (HB.out.trans (hb.mono HB.out.size));have A1:=hdz (K.stay A1x.out hb);have VXx:=hdz ((hb.block _ (lt_of_heap VX.out)).trans VX.out);have A2:=hdz (K2.stay A2x.out hb);have VYx:=hdz ((hb.block _ (lt_of_heap VY.out)).trans VY.out);have RP:=hdz (RPx.out.stay hb);have RQx:=hdz (RQ.out.stay hb);have S1:=hdz (S1x.out.stay hb);have S2x:=hdz (S2.out.stay hb);have Vax:=hdz (Va.out.stay hb);clear HB A1x VX A2x VY RPx RQ S1x S2 Va hb;have Db:=hdz (hd);clear hd;refine hK.out _ _ ⟨one_cell VXx.out,one_cell VYx.out⟩ (fun hH2 => ?_);clear hK K9 hH;have hH:=hH2;clear hH2;try simp only [bkz]
   generalize hbd:w114.heap.size + 1 = bb at *;have HLOb:=hdz (show w.heap.size ≤ bb by omega);clear hlo hbd;refine rd1 37 (fun K9 hK => ?_);go_simp;refine (all_first K2 bb v2 l _ Db.out A2.out (by rw [HLL.out.2];have:=HN4.out;omega)).mono ?_;rintro e w116 ⟨rb,Eb,cb,Bb,rfl,hdr,hown,hbut,hBb,hbBb,hABb⟩;have hk:=nd_but hbut Db.out;have hs:=hbut.size;have HB:=hdz (hbut.below HBx.out (HLOb.out) (HBx.out.size));have A1x:=hdz (K.keep A1.out (nd_nh hk) hs);have VX:=hdz (var_nd VXx.out hk);have A2x:=hdz (K2.keep A2.out (nd_nh hk) hs);have VY:=hdz (var_nd VYx.out hk);have RPx:=hdz (RP.out.kpt hk);have RQ:=hdz (RQx.out.kpt hk);have S1x:=hdz (S1.out.kpt hk);have S2:=hdz (S2x.out.kpt hk);have Va:=hdz (Vax.out.kpt hk);clear HBx A1 VXx A2 VYx RP RQx S1 S2x Vax Db hk hs hbut;have Vb:=hdz (hown.rw);clear hown hdr hBb hbBb hABb;refine hK.out _ _ ⟨one_cell VX.out,one_cell VY.out⟩ (fun hH2 => ?_);clear hK K9 hH;have hH:=hH2;clear hH2;try simp only [bkz]
   refine rd1 38 (fun K9 hK => ?_);go_simp;refine (same_rw ra rb l l _ (by rw [HLL.out.2];have:=HN4.out;omega) Va.out Vb.out).mono ?_;rintro e w117 ⟨rfl,hb⟩;have HBx:=hdz (HB.out.trans (hb.mono HB.out.size));have A1:=hdz (K.stay A1x.out hb);have VXx:=hdz ((hb.block _ (lt_of_heap VX.out)).trans VX.out);have A2:=hdz (K2.stay A2x.out hb);have VYx:=hdz ((hb.block _ (lt_of_heap VY.out)).trans VY.out);have RP:=hdz (RPx.out.stay hb);have RQx:=hdz (RQ.out.stay hb);have S1:=hdz (S1x.out.stay hb);have S2x:=hdz (S2.out.stay hb);have Vax:=hdz (Va.out.stay hb);have Vbx:=hdz (Vb.out.stay hb);clear HB A1x VX A2x VY RPx RQ S1x S2 Va Vb hb;rw [show decide (l = l) = true from decide_eq_true rfl];refine hK.out _ _ ⟨one_cell VXx.out,one_cell VYx.out⟩ (fun hH2 => ?_);clear hK K9 hH;have hH:=hH2;clear hH2;try simp only [bkz]
   refine tk 39 hH ?_;try simp only [bkz]
   refine tk 40 hH ?_;try simp only [bkz]
   refine dn ?_;go_wp2_with fail
   refine bodyPost_ret (v := .bool true) (by simp [results,Tryz.results7,go_sem]) rfl ⟨rfl,HBx.out⟩
theorem dkinds_any (k k2:Int) (A:Option Addr) (xs:List (Int × Int)) (c:Nat) (q:Nat) (w:World) (hq:q ≤ 255) (fx:fits xs) (hr:Row w A xs):Calls Tryz.prog 7 #[.int .i64 k,.int .i64 k2,.slice A xs.length c,.int .u8 (q:Int)] w fun e w' => e = .returned (.bool true) ∧ Below w.heap.size w w':=by
 by_cases h:40 < xs.length ∨ k < 1 ∨ 6 < k ∨ k2 < 1 ∨ 6 < k2
 ·exact dkinds_out k k2 A _ c q w h
 obtain ⟨T,fI,fM,fN,fP,fS,At,K⟩:=kind_of k ⟨by omega,by omega⟩;obtain ⟨T2,fI2,fM2,fN2,fP2,fS2,At2,K2⟩:=kind_of k2 ⟨by omega,by omega⟩;exact dkinds_good K K2 A xs c q w ⟨by omega,by omega⟩ ⟨by omega,by omega⟩ (by omega) fx hr hq
end Go.Proofs.YtmeodbjlmjpnbaaGreat
