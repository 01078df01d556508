/- DrainOnce holds: of every kind, of every row of elements, asked however often: it returns true, and nothing that was there has changed. -/
import Derived.Test.YtmeodbjlmjpnbaaGreatPd
set_option maxRecDepth 100000
set_option maxHeartbeats 8000000
namespace Go.Proofs.YtmeodbjlmjpnbaaGreat
open Go.Sort Go.RowKit
def Cells (w:World) (g o n:Nat):Prop:=(∀ j,j < n → (∃ z,w.cell? ⟨g,j * 2 + o,none⟩ = some (.int .i64 z)) ∧ w.frozen? ⟨g,j * 2 + o,none⟩ = false) ∧ ∃ cs,w.heap[g]? = some (.cells cs 29 (0,0))
theorem Cells.set {w:World} {g o n:Nat} (h:Cells w g o n) (i:Nat) (z:Int):Cells (w.setCell ⟨g,i * 2 + o,none⟩ (.int .i64 z)) g o n:=by
 refine ⟨fun j hj => ?_,?_⟩
 ·obtain ⟨⟨y,hy⟩,hz⟩:=h.1 j hj;refine ⟨?_,by rw [World.frozen?_setCell];exact hz⟩;by_cases e:j = i
  ·subst e;exact ⟨z,World.cell?_setCell_same _ _ _ hy⟩
  ·exact ⟨y,(World.cell?_setCell_other _ _ _ _ (fun e' => e (by injection e' with _ e2 _;omega))).trans hy⟩
 ·obtain ⟨cs,hc⟩:=h.2;exact ⟨_,heap_set hc _⟩
theorem Cells.stay {w w':World} {g o n:Nat} (h:Cells w g o n) (hb:Below w.heap.size w w'):Cells w' g o n:=by
 obtain ⟨h1,cs,h2⟩:=h;have hl:=lt_of_heap h2;exact ⟨fun j hj => ⟨by rw [hb.cell (p:=⟨g,j * 2 + o,none⟩) hl];exact (h1 j hj).1,by rw [hb.frozen (p:=⟨g,j * 2 + o,none⟩) hl];exact (h1 j hj).2⟩,cs,(hb.block g hl).trans h2⟩
theorem Own.here {w:World} {base:Nat} {v:Value} {xs:List (Int × Int)} (h:Own w base v xs) :
  ∃ A c,v = .slice A xs.length c ∧ Row w A xs ∧ ((A = Option.none ∧ xs.length = 0) ∨ ∃ g,A = some ⟨g,0,Option.none⟩ ∧ base ≤ g ∧ g < w.heap.size ∧ Cells w g 0 xs.length):=by
 have h0:=h;rcases h.2 with ⟨rfl,hn⟩ | ⟨g,cap,cur,rfl,hb,hg,hc,hm,_⟩
 ·obtain rfl:xs = []:=List.eq_nil_of_length_eq_zero hn;exact ⟨Option.none,0,rfl,Row.nil _ _,.inl ⟨rfl,rfl⟩⟩
 ·obtain ⟨A',k',e,hr, -⟩:=h0.form
  cases e
  refine ⟨_,cap,rfl,hr,.inr ⟨g,rfl,hb,(Array.getElem?_eq_some_iff.1 hg).1,fun j hj => ?_,cur,hg⟩⟩;have e:=cellsE_at xs j hj;have h2:=h0.cells (g:=g) rfl;have e1:(cellsE xs)[j * 2 + 0]? = some (.int .i64 xs[j].1):=e.1;have:=h2 _ _ e1;rw [add_plain,Nat.zero_add] at this;exact ⟨⟨_,this⟩,World.ownsRow.frozenAt h0 _⟩
def Rb (b B:Nat) (W:World) (A:Option Addr) (xs:List (Int × Int)):Prop:=Row W A xs ∧ ∀ a,A = some a → a.block < B ∧ a.block ≠ b
theorem Rw.rb {W:World} {A:Option Addr} {c:Nat} {xs:List (Int × Int)} {b:Nat} {cs:Array Value} {z:Nat × Nat} (h:Rw W (.slice A xs.length c) xs) (hd:W.heap[b]? = some (.cells cs 145 z)):Rb b W.heap.size W A xs:=by
 obtain ⟨A',k',e,hr, -⟩:=h.form
 cases e
 refine ⟨hr,fun a e => ?_⟩;rcases h with ⟨h, -⟩ | ⟨g,o,c',cs,h1, -, -,h4, -⟩
 ·injection h with h1 h2 h3
  subst h1
  cases e
 ·injection h1 with h1 h2 h3
  subst h1
  cases e
  exact ⟨lt_of_heap h4,fun e => by rw [← e] at hd;rw [h4] at hd;cases hd⟩
def NE (t:TypeId):Prop:=t ≠ 29
theorem ne_nh {W W':World} (h:Kpt NE W W'):Kpt NH W W':=fun k cs t ht e => h k cs t (fun e2 => absurd (e2 ▸ ht) (by decide)) e
theorem ne_cells {W:World} {g o n j:Nat} (h:Cells W g o n) (u:Value):Kpt NE W (W.setCell ⟨g,j,none⟩ u):=by
 obtain ⟨-,cs,hc⟩:=h;exact Kpt.set hc (by unfold NE;decide) _ _
def DQ (At:World → Value → List (Int × Int) → Prop) (T:TypeId) (v:Value) (W:World) (b:Nat) (l:List (Int × Int)):Prop:=(∃ A c,DrAt W b A c l) ∨ (Dk W b 0 0 (.iface T v) (.slice none 0 0) 0 ∧ At W v l)
theorem DQ.stay {k:Int} {T:TypeId} {fI fM fN fP fS:FuncId} {At:World → Value → List (Int × Int) → Prop} (K:KindC k T fI fM fN fP fS At) {v:Value} {W W':World} {b:Nat} {l:List (Int × Int)} (h:DQ At T v W b l) (hb:Below W.heap.size W W'):DQ At T v W' b l:=by
 rcases h with ⟨A,c,h⟩ | ⟨h,h2⟩
 ·exact .inl ⟨A,c,h.stay hb⟩
 ·exact .inr ⟨h.stay hb,K.stay h2 hb⟩
theorem DQ.dk {At:World → Value → List (Int × Int) → Prop} {T:TypeId} {v:Value} {W:World} {b:Nat} {l:List (Int × Int)} (h:DQ At T v W b l):∃ cs,W.heap[b]? = some (.cells cs 145 (0,0)):=by
 rcases h with ⟨A,c,h⟩ | ⟨h,h2⟩
 ·exact ⟨_,h.blk⟩
 ·exact ⟨_,h⟩
theorem all_q {k:Int} {T:TypeId} {fI fM fN fP fS:FuncId} {At:World → Value → List (Int × Int) → Prop} (K:KindC k T fI fM fN fP fS At) (b:Nat) (v:Value) (l:List (Int × Int)) (w:World) (h:DQ At T v w b l) (hl:l.length < 16777216) :
  Calls Tryz.prog 26 #[.pointer (some ⟨b,0,none⟩)] w (Told b l w):=by
 rcases h with ⟨A,c,h⟩ | ⟨h,h2⟩
 ·exact all_again b A c l w h hl
 ·exact all_first K b v l w h h2 hl
theorem once_out (k:Int) (A:Option Addr) (n c:Nat) (q:Int) (w:World) (h:40 < n ∨ k < 1 ∨ 6 < k):Calls Tryz.prog 5 #[.int .i64 k,.slice A n c,.int .u8 q] w fun e w' => e = .returned (.bool true) ∧ Below w.heap.size w w':=by
 have h':40 < n ∨ (¬ 40 < n ∧ k < 1) ∨ (¬ 40 < n ∧ ¬ k < 1 ∧ 6 < k):=by omega
 clear h;rcases h' with h1 | ⟨h1,h2⟩ | ⟨h1,h2,h3⟩
 all_goals
  have i1:((40:Int) < (n:Int)) = (40 < n):=by simp only [eq_iff_iff];omega
  go_enter Tryz.func5,Tryz.ntmps5
  go_wp2_with fail
  refine (awake_any _).mono ?_;rintro e w1 ⟨rfl,hb⟩;go_wp2_with fail
  refine bodyPost_ret (v := .bool true) (by simp [results,Tryz.results5,go_sem]) rfl ⟨rfl,hb⟩
theorem once_good {k:Int} {T:TypeId} {fI fM fN fP fS:FuncId} {At:World → Value → List (Int × Int) → Prop} (K:KindC k T fI fM fN fP fS At) (A:Option Addr) (xs:List (Int × Int)) (c:Nat) (q M:Nat) (w:World) (hk:1 ≤ k ∧ k ≤ 6) (hxl:xs.length ≤ 40) (fx:fits xs) (hr:Row w A xs) (hq:q ≤ 255) (hM:Int.tmod (q:Int) 5 = (M:Int)) (hM4:M ≤ 4):Calls Tryz.prog 5 #[.int .i64 k,.slice A xs.length c,.int .u8 (q:Int)] w fun e w' => e = .returned (.bool true) ∧ Below w.heap.size w w':=by
 have HB:=hdz (Below.refl w.heap.size w);have HX:=hdz (anz hxl (anz fx hr));obtain ⟨n,hn⟩:=exq (xs.length);rw [← hn];have hn1:¬ k < 1:=by omega
 have hn2:¬ 6 < k:=by omega
 have l1:¬ 40 < n:=by omega
 have i1:((40:Int) < (n:Int)) = (40 < n):=by simp only [eq_iff_iff];omega
 obtain ⟨l,hl⟩:=exq (srt xs);have HL:=hdz (anz hl (show l.length = n by rw [hl,srt_length,hn]));have HM5:=hdz hM4;clear hM4;have HN:=hdz hn;clear hk hxl fx hr hn hl;go_enter Tryz.func5,Tryz.ntmps5
 go_wp2_with fail
 refine (awake_any _).mono ?_;rintro e w1 ⟨rfl,hb⟩;have HBx:=hdz (HB.out.trans (hb.mono HB.out.size));clear HB hb;go_wp2_with fail
 rw [HN.out];refine (K.of A xs c _ (HX.out.2.2.below HBx.out) (by have:=HX.out.1;omega) HX.out.2.1).mono ?_;rintro e w2 ⟨v1,rfl,ha,hb⟩;have HB:=hdz (HBx.out.trans (hb.mono HBx.out.size));clear HBx hb;rw [← HN.out];rw [← HL.out.1] at ha;have A1:=hdz (ha);clear ha;have hb:=(Below.refl w2.heap.size w2).alloc (Nat.le_refl _) (.cells #[.iface T v1] 27);have HBx:=hdz (HB.out.trans (hb.mono HB.out.size));have A1x:=hdz (K.stay A1.out hb);clear HB A1 hb;have VX:=hdz (show (w2.alloc (.cells #[.iface T v1] 27)).heap[w2.heap.size]? = some (.cells #[.iface T v1] 27 (0,0)) from new_at (by simp));have c_VX:=one_cell VX.out;go_wp2_with fail
 clear c_VX;generalize w2.alloc (.cells #[.iface T v1] 27) = w3 at *;have hlo:=HBx.out.size;refine (dof_any T v1 _).mono ?_;rintro e w4 ⟨rfl,hd,hb⟩;have HB:=hdz (HBx.out.trans (hb.mono HBx.out.size));have A1:=hdz (K.stay A1x.out hb);have VXx:=hdz ((hb.block _ (lt_of_heap VX.out)).trans VX.out);clear HBx A1x VX hb;have D1:=hdz (hd);clear hd;generalize hbd:w3.heap.size + 1 = bd at *;have HLO:=hdz (show w.heap.size ≤ bd by omega);clear hlo hbd;go_wp2_with fail
 refine (done_at bd 0 _ D1.out.c5).mono ?_;rintro e w5 ⟨rfl,hw⟩;subst hw;go_wp2_with fail
 rw [HN.out];refine (sortRw A xs c _ (HX.out.2.2.below HB.out) (by have:=HX.out.1;omega)).mono ?_;rintro e w5 ⟨sv,rfl,hs,hb⟩;have HBx:=hdz (HB.out.trans (hb.mono HB.out.size));have A1x:=hdz (K.stay A1.out hb);have VX:=hdz ((hb.block _ (lt_of_heap VXx.out)).trans VXx.out);have D1x:=hdz (D1.out.stay hb);clear HB A1 VXx D1 hb;rw [← HN.out];rw [← HL.out.1] at hs;obtain ⟨S,cs,hse, -⟩:=hs.form;subst hse;have RS:=hdz (hs.rb D1x.out);clear hs;rw [HL.out.2];have HSB:=hdz (Nat.le_refl w5.heap.size);have HQ0:=hdz (show DQ At T v1 w5 bd l from .inr ⟨D1x.out,A1x.out⟩);have HSZ:=hdz (Nat.lt_of_lt_of_le (lt_of_heap D1x.out) (Nat.le_refl _));go_wp2_with fail
 go_loopg [12] M (fun kk i wr => ∃ (j:Nat),i = .int .i64 (j:Int) ∧ kk = M - j ∧ j ≤ M ∧ DQ At T v1 wr bd l ∧ wr.heap[w2.heap.size]? = some (.cells #[.iface T v1] 27 (0,0)) ∧ At wr v1 l ∧ Rb bd w5.heap.size wr S l ∧ Below w.heap.size w wr ∧ w5.heap.size ≤ wr.heap.size)
 case atStart => exact ⟨0,rfl,rfl,Nat.zero_le _,HQ0.out,VX.out,A1x.out,RS.out,HBx.out,Nat.le_refl _⟩
 case round =>
  obtain ⟨j,rfl,hk,hj,hq,hvx,hax,hrs,hbb,hsz⟩:=hrel;have DQ1:=hdz (hq);have VX:=hdz (hvx);have AX:=hdz (hax);have RS:=hdz (hrs);have HB:=hdz (hbb);have SZ:=hdz (hsz);have HJ:=hdz (anz hj hk);clear hq hvx hax hrs hbb hk hj hsz;by_cases hlt:j < M
  ·have g1:(j:Int) < (M:Int):=by omega
   have HSZ0:=hdz SZ.out;go_wp2_with fail
   obtain ⟨dcs,hdc⟩:=DQ1.out.dk;refine (all_q K bd v1 l _ DQ1.out (by have:=HL.out.2;omega)).mono ?_;rintro e w41 ⟨rv,A5,c5,B5,rfl,hdr,hown,hbut,hB,hbB,hAB⟩;have hk:=nd_but hbut hdc;have hs:=hbut.size;obtain ⟨E,cE,rfl,hrE,hE⟩:=hown.here;rw [HL.out.2] at hE;have VXx:=hdz (var_nd VX.out hk);have AXx:=hdz (K.keep AX.out (nd_nh hk) hs);have RSx:=hdz (anz (RS.out.1.but hbut (fun a e => (RS.out.2 a e).2)) RS.out.2);have HBx:=hdz (hbut.below HB.out HLO.out HB.out.size);have SZx:=hdz (Nat.le_trans SZ.out hs);clear DQ1 VX AX RS HB SZ hk hs hdc;have DR:=hdz (hdr);have HE:=hdz (anz hB (anz hbB (anz hAB hE)));have HRE:=hdz hrE;clear hdr hown hbut hB hbB hAB hE hrE;rw [HL.out.2];rcases HE.out.2.2.2 with ⟨rfl,hn0⟩ | ⟨gb,rfl,hg1,hg2,hce⟩
   ·have HSM:=hdz (show Calls Tryz.prog 15 #[.slice none n cE,.slice S n cs] w41 (fun e w' => e = .returned (.bool true) ∧ Below w41.heap.size w41 w') from by
     have h:=same_any none S l l cE cs w41 (by have:=HL.out.2;omega) HRE.out RSx.out.1;rw [HL.out.2,show decide (l = l) = true from decide_eq_true rfl] at h;exact h)
    have gz:¬ (0:Int) < (n:Int):=by omega
    have HN0:=hdz hn0;clear hn0;go_wp2_with fail
    refine (HSM.out).mono ?_;rintro e w42 ⟨rfl,hb⟩;have VX:=hdz ((hb.block _ (lt_of_heap VXx.out)).trans VXx.out);have AX:=hdz (K.stay AXx.out hb);have RS:=hdz (anz (RSx.out.1.below hb) RSx.out.2);have HB:=hdz (HBx.out.trans (hb.mono HBx.out.size));have SZ:=hdz (Nat.le_trans SZx.out hb.size);have DRx:=hdz (DR.out.stay hb);clear VXx AXx RSx HBx SZx DR hb;go_wp2_with fail
    refine (done_at bd 1 _ DRx.out.blk.c5).mono ?_;rintro e w43 ⟨rfl,hw⟩;subst hw;go_wp2_with fail
    go_loopg [14] 0 (fun kk i wq => i = .int .i64 0 ∧ DrAt wq bd A5 c5 l ∧ wq.heap[w2.heap.size]? = some (.cells #[.iface T v1] 27 (0,0)) ∧ At wq v1 l ∧ Rb bd w5.heap.size wq S l ∧ Below w.heap.size w wq ∧ w43.heap.size ≤ wq.heap.size)
    case atStart => exact ⟨rfl,DRx.out,VX.out,AX.out,RS.out,HB.out,Nat.le_refl _⟩
    case round =>
     obtain ⟨rfl,hdr,hvx,hax,hrs,hbb,hsz⟩:=hrel;have HI:=hdz (anz hdr (anz hvx (anz hax (anz hrs (anz hbb hsz)))));clear hdr hvx hax hrs hbb hsz;go_wp2_with fail
     go_roundg (M - (j + 1))
     case measure => have:=HJ.out;omega
     case rel => exact ⟨j + 1,by first | rfl | (congr 1;done) | (congr 1;unfold wrap64;have:=HM5.out;omega),rfl,hlt,.inl ⟨A5,c5,HI.out.1⟩,HI.out.2.1,HI.out.2.2.1,HI.out.2.2.2.1,HI.out.2.2.2.2.1,Nat.le_trans SZ.out HI.out.2.2.2.2.2⟩
   ·have HG:=hdz (show bd ≠ gb ∧ w.heap.size ≤ gb ∧ (∀ a,A5 = some a → a.block ≠ gb) ∧ ∀ a,S = some a → a.block ≠ gb from ⟨by have:=HE.out.2.1;omega,by have:=HE.out.2.1;have:=HLO.out;omega,fun a e => by have:=HE.out.2.2.1 a e;omega,fun a e => by have h1:=(RSx.out.2 a e).1;have h2:=HE.out.1;have h3:=HSZ0.out;omega⟩);have CE:=hdz (hce);clear hce hg1 hg2
    have HSM:=hdz (show Calls Tryz.prog 15 #[.slice (some ⟨gb,0,none⟩) n cE,.slice S n cs] w41 (fun e w' => e = .returned (.bool true) ∧ Below w41.heap.size w41 w') from by
     have h:=same_any (some ⟨gb,0,none⟩) S l l cE cs w41 (by have:=HL.out.2;omega) HRE.out RSx.out.1;rw [HL.out.2,show decide (l = l) = true from decide_eq_true rfl] at h;exact h)
    go_wp2_with fail
    refine (HSM.out).mono ?_;rintro e w42 ⟨rfl,hb⟩;have VX:=hdz ((hb.block _ (lt_of_heap VXx.out)).trans VXx.out);have AX:=hdz (K.stay AXx.out hb);have RS:=hdz (anz (RSx.out.1.below hb) RSx.out.2);have HB:=hdz (HBx.out.trans (hb.mono HBx.out.size));have SZ:=hdz (Nat.le_trans SZx.out hb.size);have DRx:=hdz (DR.out.stay hb);have CEx:=hdz (CE.out.stay hb);clear VXx AXx RSx HBx SZx DR CE hb;go_wp2_with fail
    refine (done_at bd 1 _ DRx.out.blk.c5).mono ?_;rintro e w43 ⟨rfl,hw⟩;subst hw;go_wp2_with fail
    go_loopg [14] n (fun kk i wq => ∃ (i2:Nat),i = .int .i64 (i2:Int) ∧ kk = n - i2 ∧ i2 ≤ n ∧ DrAt wq bd A5 c5 l ∧ wq.heap[w2.heap.size]? = some (.cells #[.iface T v1] 27 (0,0)) ∧ At wq v1 l ∧ Rb bd w5.heap.size wq S l ∧ Below w.heap.size w wq ∧ w43.heap.size ≤ wq.heap.size ∧ Cells wq gb 0 n)
    case atStart => exact ⟨0,rfl,rfl,Nat.zero_le _,DRx.out,VX.out,AX.out,RS.out,HB.out,Nat.le_refl _,CEx.out⟩
    case round =>
     obtain ⟨i2,rfl,hk2,hi2,hdr,hvx,hax,hrs,hbb,hsz,hce⟩:=hrel;by_cases hlt2:i2 < n
     ·obtain ⟨⟨y,hy⟩,hf⟩:=hce.1 i2 hlt2;have hy:wr.cell? ⟨gb,i2 * 2,none⟩ = some (.int .i64 y):=hy;have hf:wr.frozen? ⟨gb,i2 * 2,none⟩ = false:=hf;have gl:(i2:Int) < (n:Int):=by omega
      have gl2:(0:Int) ≤ (i2:Int):=by omega
      have HI:=hdz (anz hdr (anz hvx (anz hax (anz hrs (anz hbb (anz hsz (anz hce (anz hk2 hi2))))))));clear hdr hvx hax hrs hbb hsz hce hk2 hi2;go_wp2_with fail
      have hkn:=ne_cells (j:=i2 * 2) HI.out.2.2.2.2.2.2.1 (.int .i64 (wrap64 (y + 1)));have hbs:=But.set gb (i2 * 2) wr (.int .i64 (wrap64 (y + 1)));go_roundg (n - (i2 + 1))
      case measure => have:=HI.out.2.2.2.2.2.2.2.1;omega
      case rel => exact ⟨i2 + 1,by first | rfl | (congr 1;done) | (congr 1;unfold wrap64;omega),rfl,hlt2,HI.out.1.but hbs HG.out.1 HG.out.2.2.1,hkn _ _ _ (by unfold NE;decide) HI.out.2.1,K.keep HI.out.2.2.1 (ne_nh hkn) hbs.size,⟨HI.out.2.2.2.1.1.but hbs HG.out.2.2.2,HI.out.2.2.2.1.2⟩,hbs.below HI.out.2.2.2.2.1 HG.out.2.1 HI.out.2.2.2.2.1.size,Nat.le_trans HI.out.2.2.2.2.2.1 hbs.size,HI.out.2.2.2.2.2.2.1.set i2 (wrap64 (y + 1))⟩
     ·have gl:¬ (i2:Int) < (n:Int):=by omega
      have HI:=hdz (anz hdr (anz hvx (anz hax (anz hrs (anz hbb hsz)))));clear hdr hvx hax hrs hbb hsz hce hk2 hi2;go_wp2_with fail
      go_roundg (M - (j + 1))
      case measure => have:=HJ.out;omega
      case rel => exact ⟨j + 1,by first | rfl | (congr 1;done) | (congr 1;unfold wrap64;have:=HM5.out;omega),rfl,hlt,.inl ⟨A5,c5,HI.out.1⟩,HI.out.2.1,HI.out.2.2.1,HI.out.2.2.2.1,HI.out.2.2.2.2.1,Nat.le_trans SZ.out HI.out.2.2.2.2.2⟩
  ·have g1:¬ (j:Int) < (M:Int):=by omega
   have c_VX:=one_cell VX.out;go_wp2_with fail
   refine (all_nil _).mono ?_;rintro e w41 ⟨rfl,hw⟩;subst hw;go_wp2_with fail
   refine (done_nil _).mono ?_;rintro e w42 ⟨rfl,hw⟩;subst hw;go_wp2_with fail
   refine (sizeH K v1 l _ AX.out).mono ?_;rintro e w43 ⟨rfl,hb⟩;have DQ1x:=hdz (DQ1.out.stay K hb);have VXx:=hdz ((hb.block _ (lt_of_heap VX.out)).trans VX.out);have AXx:=hdz (K.stay AX.out hb);have RSx:=hdz (anz (RS.out.1.below hb) RS.out.2);have HBx:=hdz (HB.out.trans (hb.mono HB.out.size));have SZx:=hdz (Nat.le_trans SZ.out hb.size);clear DQ1 VX AX RS HB SZ hb;rw [HL.out.2];go_wp2_with fail
   refine bodyPost_ret (v := .bool true) (by simp [results,Tryz.results5,go_sem]) rfl ⟨rfl,HBx.out⟩
theorem once_any (k:Int) (A:Option Addr) (xs:List (Int × Int)) (c:Nat) (q:Nat) (w:World) (hq:q ≤ 255) (fx:fits xs) (hr:Row w A xs):Calls Tryz.prog 5 #[.int .i64 k,.slice A xs.length c,.int .u8 (q:Int)] w fun e w' => e = .returned (.bool true) ∧ Below w.heap.size w w':=by
 by_cases h:40 < xs.length ∨ k < 1 ∨ 6 < k
 ·exact once_out k A _ c q w h
 obtain ⟨T,fI,fM,fN,fP,fS,At,K⟩:=kind_of k ⟨by omega,by omega⟩;exact once_good K A xs c q (q % 5) w ⟨by omega,by omega⟩ (by omega) fx hr hq (by rw [Int.tmod_eq_emod_of_nonneg (by omega)];omega) (by omega)
end Go.Proofs.YtmeodbjlmjpnbaaGreat
