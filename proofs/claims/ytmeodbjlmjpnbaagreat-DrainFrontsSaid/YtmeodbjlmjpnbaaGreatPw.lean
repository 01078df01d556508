/- What a heap of package leftist shows, through heap's interface. -/
import Derived.Test.YtmeodbjlmjpnbaaGreatPle
import Derived.Test.YtmeodbjlmjpnbaaGreatPsh
import Derived.Test.YtmeodbjlmjpnbaaGreatPbb
import Derived.Test.YtmeodbjlmjpnbaaGreatPbi
import Derived.Test.YtmeodbjlmjpnbaaGreatPpb
import Derived.Test.YtmeodbjlmjpnbaaGreatPsb
import Derived.Test.YtmeodbjlmjpnbaaGreatPro
import Derived.Test.YtmeodbjlmjpnbaaGreatPwb
import Derived.Test.YtmeodbjlmjpnbaaGreatPbo
set_option maxRecDepth 100000
set_option maxHeartbeats 1000000
namespace Go.Proofs.YtmeodbjlmjpnbaaGreat.Le
open Go.Sort Go.RowKit
theorem qX [Tb](h:Lh)(q:Option Addr)(w:World)(he:Env w)(hf:fits h.all)(hs:h.size<16777216)(hh:aA w h q) :
  Calls Tryz.prog 218 #[.agg #[.pointer q]] w fun e w'=>e=.returned (.string ⟨h.aM.toArray⟩)∧Below w.heap.size w w':=by
 have hm:∀(k:Nat) (w:World),(method (k+1) 101 (.agg #[.pointer q]) "Show").run Tryz.prog w=.ok (206,.agg #[.pointer q]) w:=fun _ _=>by kernel_rfl
 have hb1:Below w.heap.size w (w.alloc (.cells #[.pointer q] 177)):=bG _;have H:=hdz (af (hh.stay hb1) hb1);have HE:=hdz (af (he.below hb1) (af hf hs));obtain ⟨z,hz⟩:=aU (h.aM);rw [←hz];have HZ:=hdz hz;clear hh hb1 hz he hf hs;go_enter Tryz.func218,Tryz.ntmps218
 go_wp2_with fail
 refine (gI h q _ HE.out.1 H.out.1 HE.out.2.1 (by have:=HE.out.2.2;omega)).mono ?_;rintro e w1 ⟨he,hb⟩;rw [←HZ.out]at he;subst he;have Y:=hdz (H.out.2.trans (hb.mono H.out.2.size));clear hb;go_wp2_with fail
 refine bodyPost_ret (v := .string ⟨z.toArray⟩) (by simp [results,Tryz.results218,go_sem]) rfl ⟨rfl,Y.out⟩
theorem qZ [Tb]:vU 177 218 At where
 mW:=fun _ _ _=>by kernel_rfl
 cW:=fun _ _=>by kernel_rfl
 shows:=by
  rintro v l W ⟨q,rfl,h,hh,hg,rfl⟩ hl hf;exact ⟨h.aM,fun W' hk hs he=>qX h q W' he (oM hf) (by rw [dJ]at hl;exact hl) (hh.kp (fC hk))⟩
end Go.Proofs.YtmeodbjlmjpnbaaGreat.Le
namespace Go.Proofs.YtmeodbjlmjpnbaaGreat.Bi.Hp
open Go.Sort Go.RowKit
theorem qX [Tb](h:Lh)(q:Option Addr)(n:Int)(w:World)(he:Env w)(hf:fits h.all)(hs:h.size<16777216)(hh:aA w h ⟨q,n⟩) :
  Calls Tryz.prog 271 #[.agg #[.pointer q,.int .i64 n]] w fun e w'=>e=.returned (.string ⟨h.aM.toArray⟩)∧Below w.heap.size w w':=by
 have hm:∀(k:Nat) (w:World),(method (k+1) 108 (.agg #[.pointer q,.int .i64 n]) "Show").run Tryz.prog w=.ok (208,.agg #[.pointer q,.int .i64 n]) w:=fun _ _=>by kernel_rfl
 have hb1:Below w.heap.size w (w.alloc (.cells #[.pointer q,.int .i64 n] 179)):=bG _;have H:=hdz (af (hh.stay hb1) hb1);have HE:=hdz (af (he.below hb1) (af hf hs));obtain ⟨z,hz⟩:=aU (h.aM);rw [←hz];have HZ:=hdz hz;clear hh hb1 hz he hf hs;go_enter Tryz.func271,Tryz.ntmps271
 go_wp2_with fail
 refine (gI h ⟨q,n⟩ _ HE.out.1 H.out.1 HE.out.2.1 (by have:=HE.out.2.2;omega)).mono ?_;rintro e w1 ⟨he,hb⟩;rw [←HZ.out]at he;subst he;have Y:=hdz (H.out.2.trans (hb.mono H.out.2.size));clear hb;go_wp2_with fail
 refine bodyPost_ret (v := .string ⟨z.toArray⟩) (by simp [results,Tryz.results271,go_sem]) rfl ⟨rfl,Y.out⟩
theorem qZ [Tb]:vU 179 271 At where
 mW:=fun _ _ _=>by kernel_rfl
 cW:=fun _ _=>by kernel_rfl
 shows:=by
  rintro v l W ⟨q,n,rfl,h,hh,hg,rfl⟩ hl hf;exact ⟨h.aM,fun W' hk hs he=>qX h q n W' he (oM hf) (by rw [dJ]at hl;exact hl) (hh.fQ (fC hk) hs)⟩
end Go.Proofs.YtmeodbjlmjpnbaaGreat.Bi.Hp
namespace Go.Proofs.YtmeodbjlmjpnbaaGreat.Pd
open Go.Sort Go.RowKit
theorem qX [Tb](h:Lh)(q:Option Addr)(w:World)(he:Env w)(hf:fits h.all)(hs:h.size<16777216)(hh:aA w h q) :
  Calls Tryz.prog 277 #[.agg #[.pointer q]] w fun e w'=>e=.returned (.string ⟨h.aM.toArray⟩)∧Below w.heap.size w w':=by
 have hm:∀(k:Nat) (w:World),(method (k+1) 113 (.agg #[.pointer q]) "Show").run Tryz.prog w=.ok (209,.agg #[.pointer q]) w:=fun _ _=>by kernel_rfl
 have hb1:Below w.heap.size w (w.alloc (.cells #[.pointer q] 181)):=bG _;have H:=hdz (af (hh.stay hb1) hb1);have HE:=hdz (af (he.below hb1) (af hf hs));obtain ⟨z,hz⟩:=aU (h.aM);rw [←hz];have HZ:=hdz hz;clear hh hb1 hz he hf hs;go_enter Tryz.func277,Tryz.ntmps277
 go_wp2_with fail
 refine (gI h q _ HE.out.1 H.out.1 HE.out.2.1 (by have:=HE.out.2.2;omega)).mono ?_;rintro e w1 ⟨he,hb⟩;rw [←HZ.out]at he;subst he;have Y:=hdz (H.out.2.trans (hb.mono H.out.2.size));clear hb;go_wp2_with fail
 refine bodyPost_ret (v := .string ⟨z.toArray⟩) (by simp [results,Tryz.results277,go_sem]) rfl ⟨rfl,Y.out⟩
theorem qZ [Tb]:vU 181 277 At where
 mW:=fun _ _ _=>by kernel_rfl
 cW:=fun _ _=>by kernel_rfl
 shows:=by
  rintro v l W ⟨q,rfl,h,hh,hg,rfl⟩ hl hf;exact ⟨h.aM,fun W' hk hs he=>qX h q W' he (oM hf) (by rw [dJ]at hl;exact hl) (hh.kp (fC hk))⟩
end Go.Proofs.YtmeodbjlmjpnbaaGreat.Pd
namespace Go.Proofs.YtmeodbjlmjpnbaaGreat.Sk.Hp
open Go.Sort Go.RowKit
theorem qX [Tb](h:Lh)(q:Option Addr)(n:Int)(w:World)(he:Env w)(hf:fits h.all)(hs:h.size<16777216)(hh:aA w h ⟨q,n⟩) :
  Calls Tryz.prog 283 #[.agg #[.pointer q,.int .i64 n]] w fun e w'=>e=.returned (.string ⟨h.aM.toArray⟩)∧Below w.heap.size w w':=by
 have hm:∀(k:Nat) (w:World),(method (k+1) 117 (.agg #[.pointer q,.int .i64 n]) "Show").run Tryz.prog w=.ok (210,.agg #[.pointer q,.int .i64 n]) w:=fun _ _=>by kernel_rfl
 have hb1:Below w.heap.size w (w.alloc (.cells #[.pointer q,.int .i64 n] 183)):=bG _;have H:=hdz (af (hh.stay hb1) hb1);have HE:=hdz (af (he.below hb1) (af hf hs));obtain ⟨z,hz⟩:=aU (h.aM);rw [←hz];have HZ:=hdz hz;clear hh hb1 hz he hf hs;go_enter Tryz.func283,Tryz.ntmps283
 go_wp2_with fail
 refine (gI h ⟨q,n⟩ _ HE.out.1 H.out.1 HE.out.2.1 (by have:=HE.out.2.2;omega)).mono ?_;rintro e w1 ⟨he,hb⟩;rw [←HZ.out]at he;subst he;have Y:=hdz (H.out.2.trans (hb.mono H.out.2.size));clear hb;go_wp2_with fail
 refine bodyPost_ret (v := .string ⟨z.toArray⟩) (by simp [results,Tryz.results283,go_sem]) rfl ⟨rfl,Y.out⟩
theorem qZ [Tb]:vU 183 283 At where
 mW:=fun _ _ _=>by kernel_rfl
 cW:=fun _ _=>by kernel_rfl
 shows:=by
  rintro v l W ⟨q,n,rfl,h,hh,hg,rfl⟩ hl hf;exact ⟨h.aM,fun W' hk hs he=>qX h q n W' he (oM hf) (by rw [dJ]at hl;exact hl) (hh.fQ (fC hk) hs)⟩
end Go.Proofs.YtmeodbjlmjpnbaaGreat.Sk.Hp
namespace Go.Proofs.YtmeodbjlmjpnbaaGreat.Sk.Ro
open Go.Sort Go.RowKit
theorem qX [Tb](h:Lh)(q:Option Addr)(w:World)(he:Env w)(hf:fits h.all)(hs:h.size<16777216)(hh:aA w h q) :
  Calls Tryz.prog 289 #[.agg #[.pointer q]] w fun e w'=>e=.returned (.string ⟨h.aM.toArray⟩)∧Below w.heap.size w w':=by
 have hm:∀(k:Nat) (w:World),(method (k+1) 122 (.agg #[.pointer q]) "Show").run Tryz.prog w=.ok (211,.agg #[.pointer q]) w:=fun _ _=>by kernel_rfl
 have hb1:Below w.heap.size w (w.alloc (.cells #[.pointer q] 185)):=bG _;have H:=hdz (af (hh.stay hb1) hb1);have HE:=hdz (af (he.below hb1) (af hf hs));obtain ⟨z,hz⟩:=aU (h.aM);rw [←hz];have HZ:=hdz hz;clear hh hb1 hz he hf hs;go_enter Tryz.func289,Tryz.ntmps289
 go_wp2_with fail
 refine (gI h q _ HE.out.1 H.out.1 HE.out.2.1 (by have:=HE.out.2.2;omega)).mono ?_;rintro e w1 ⟨he,hb⟩;rw [←HZ.out]at he;subst he;have Y:=hdz (H.out.2.trans (hb.mono H.out.2.size));clear hb;go_wp2_with fail
 refine bodyPost_ret (v := .string ⟨z.toArray⟩) (by simp [results,Tryz.results289,go_sem]) rfl ⟨rfl,Y.out⟩
theorem qZ [Tb]:vU 185 289 At where
 mW:=fun _ _ _=>by kernel_rfl
 cW:=fun _ _=>by kernel_rfl
 shows:=by
  rintro v l W ⟨q,rfl,h,hh,hg,rfl⟩ hl hf;exact ⟨h.aM,fun W' hk hs he=>qX h q W' he (oM hf) (by rw [dJ]at hl;exact hl) (hh.fQ (fC hk) hs)⟩
end Go.Proofs.YtmeodbjlmjpnbaaGreat.Sk.Ro
namespace Go.Proofs.YtmeodbjlmjpnbaaGreat.U.Bo
open Go.Sort Go.RowKit
theorem qX [Tb](h:Lh)(q:Option Addr)(w:World)(he:Env w)(hf:fits h.all)(hs:h.size<16777216)(hh:aA w h q) :
  Calls Tryz.prog 295 #[.agg #[.pointer q]] w fun e w'=>e=.returned (.string ⟨h.aM.toArray⟩)∧Below w.heap.size w w':=by
 have hm:∀(k:Nat) (w:World),(method (k+1) 127 (.agg #[.pointer q]) "Show").run Tryz.prog w=.ok (213,.agg #[.pointer q]) w:=fun _ _=>by kernel_rfl
 have hb1:Below w.heap.size w (w.alloc (.cells #[.pointer q] 187)):=bG _;have H:=hdz (af (hh.stay hb1) hb1);have HE:=hdz (af (he.below hb1) (af hf hs));obtain ⟨z,hz⟩:=aU (h.aM);rw [←hz];have HZ:=hdz hz;clear hh hb1 hz he hf hs;go_enter Tryz.func295,Tryz.ntmps295
 go_wp2_with fail
 refine (gI h q _ HE.out.1 H.out.1 HE.out.2.1 (by have:=HE.out.2.2;omega)).mono ?_;rintro e w1 ⟨he,hb⟩;rw [←HZ.out]at he;subst he;have Y:=hdz (H.out.2.trans (hb.mono H.out.2.size));clear hb;go_wp2_with fail
 refine bodyPost_ret (v := .string ⟨z.toArray⟩) (by simp [results,Tryz.results295,go_sem]) rfl ⟨rfl,Y.out⟩
theorem qZ [Tb]:vU 187 295 At where
 mW:=fun _ _ _=>by kernel_rfl
 cW:=fun _ _=>by kernel_rfl
 shows:=by
  rintro v l W ⟨q,rfl,h,hh,hg,rfl⟩ hl hf;exact ⟨h.aM,fun W' hk hs he=>qX h q W' he (oM hf) (by rw [dJ]at hl;exact hl) (hh.fQ (fC hk) hs)⟩
end Go.Proofs.YtmeodbjlmjpnbaaGreat.U.Bo
