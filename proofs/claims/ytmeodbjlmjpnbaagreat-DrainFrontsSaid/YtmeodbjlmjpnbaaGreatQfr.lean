/- The statement DrainFronts: for every number, every row of elements and every byte the call returns true, and each argument reads afterwards as it read before, whatever the table of powers of ten holds. No conditions. -/
import Derived.Test.YtmeodbjlmjpnbaaGreatPa
import Derived.Test.YtmeodbjlmjpnbaaGreatQf
import Derived.Test.YtmeodbjlmjpnbaaGreatPbb
import Derived.JoinedOf
import Derived.JoinedAt
set_option maxRecDepth 100000
set_option maxHeartbeats 8000000
namespace Go.Proofs.YtmeodbjlmjpnbaaGreat.lawDrainFronts
open Go.ChangeShapes Go.WideShapes Go.ChangeAt Go.RowKit
theorem contract (H:Type)(enc:TypeId×Value→H)(W:World)(base:Nat)(args:Array Value)(ds gs:List (DataW H))(before:List MemPlace)
  (hval:∀(j:Nat) t v,Tryz.f6.params[j]?=some t→args[j]?=some v→Value.okWide Tryz.prog W .any base t v)
  (hW:DataW.Whole enc Tryz.prog Tryz.f6.params.toList Rows.drainFrontsSpec.vars false W args.toList ds gs before) (hsh:W.ShapedOpen Tryz.prog) :
  Calls Tryz.prog 6 args W fun e W' => ∃v,e=.returned v∧Rows.drainFrontsSpec.post enc Tryz.prog Tryz.f6 false true false false W args v W':=by
 have hW':=hW;obtain ⟨p,q,hA0,hV,rfl,hfz,hnd⟩:=hW;have hA:DataW.TrodAll enc Tryz.prog W 0 (fun _=>true) true Tryz.f6.params.toList args.toList ds p:=hA0;rw [Tryz.params6]at hA hval;obtain ⟨v0,v1,v2,d0,d1,d2,p0,p1,p2,rfl,rfl,rfl,h0,h1,h2⟩:=trodAll_three hA;obtain ⟨n0,rfl,rfl,rfl, -⟩:=open_int Tryz.underlying3 (hval 0 3 v0 rfl rfl) h0;obtain ⟨A1,xs1,c1,rfl,hr1,hc1,hm1,hn1,hx1⟩:=CF (hval 1 22 v1 rfl rfl) h1;obtain ⟨u2,rfl,rfl,rfl,hu2⟩:=open_int Tryz.underlying5 (hval 2 5 v2 rfl rfl) h2;obtain ⟨m2,rfl,hm2⟩:=byte_of_wf hu2;obtain ⟨T,he⟩:=GD hsh;refine (Av n0 A1 xs1 c1 m2 W he (by omega) hx1 hr1).mono fun e W' ⟨hr,hb⟩=>⟨_,hr,?_⟩;exact law_done laidOut (by kernel_rfl) (by kernel_rfl) Tryz.underlying4 rfl (fun _=>rfl) hW' hb
theorem lifted (os:Os)(started:os.Started)(H:Type)(enc:TypeId×Value→H) :
  ReturnsInHanded {} Tryz.checked os 6 .any (Rows.drainFrontsSpec.pre6 enc Tryz.prog Tryz.f6 Rows.drainFrontsRow.domain false) (Rows.drainFrontsSpec.post enc Tryz.prog Tryz.f6 false true false false):=by
 refine returnsInHanded_of_change_shaped (C:=Tryz.checked) own started (by kernel_rfl) Tryz.func6
  (ChangeSpec.witness6 (enc:=enc) (C:=Tryz.checked) false ⟨#[],#[.int .i64 0,.slice none 0 0,.int .u8 0],[]⟩ 8 (by kernel_rfl) (by kernel_rfl) (by kernel_rfl) (by kernel_rfl)) ?_
 intro W base args ds gs before hval hW _ _ hsh _;exact contract H enc W base args ds gs before hval hW hsh
theorem Hq {a b:Bool}(ha:a=true)(hb:b=true):(a && b)=true:=by rw [ha,hb];rfl
theorem closed:joinedFacts Tryz.checked.prog 6 Tryz.f6 Rows.drainFrontsSpec Rows.drainFrontsRow=true:=by
 unfold joinedFacts;repeat' with_reducible refine Hq ?_ ?_
 all_goals (as_aux_lemma=>kernel_rfl)
theorem said:Rows.DrainFrontsSaid :=
 OpenClaim.holds_of_wide 6 Tryz.f6 rfl rfl rfl rfl rfl rfl rfl ⟨rfl,rfl,rfl,rfl,rfl⟩ rfl rfl rfl rfl rfl (by kernel_rfl) Tryz.func6 closed
  (of_decide_eq_true (by kernel_rfl)) (by unfold Func.isWrapper;first|(rw [if_pos (by decide +kernel)];kernel_rfl)|(rw [if_neg (by decide +kernel)];exact ⟨rfl,rfl⟩))
  (fun os started H enc _=>lifted os started H enc)
#print axioms said
end Go.Proofs.YtmeodbjlmjpnbaaGreat.lawDrainFronts
