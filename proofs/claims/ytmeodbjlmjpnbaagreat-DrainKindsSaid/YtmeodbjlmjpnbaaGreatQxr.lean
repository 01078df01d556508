/- The statement DrainKinds: for every two numbers, every row of elements and every byte the call returns true, and each argument reads afterwards as it read before. No conditions. -/
import Derived.Test.YtmeodbjlmjpnbaaGreatPa
import Derived.Test.YtmeodbjlmjpnbaaGreatQx
import Derived.JoinedOf
import Derived.JoinedAt
set_option maxRecDepth 100000
set_option maxHeartbeats 8000000
namespace Go.Proofs.YtmeodbjlmjpnbaaGreat.lawDrainKinds
open Go.ChangeShapes Go.WideShapes Go.ChangeAt Go.RowKit
theorem contract (H:Type) (enc:TypeId × Value → H) (W:World) (base:Nat) (args:Array Value) (ds gs:List (DataW H)) (before:List MemPlace)
  (hval:∀ (j:Nat) t v,Tryz.f7.params[j]? = some t → args[j]? = some v → Value.okWide Tryz.prog W .any base t v)
  (hW:DataW.Whole enc Tryz.prog Tryz.f7.params.toList Rows.drainKindsSpec.vars false W args.toList ds gs before) :
  Calls Tryz.prog 7 args W fun e W' => ∃ v,e = .returned v ∧ Rows.drainKindsSpec.post enc Tryz.prog Tryz.f7 false true false false W args v W':=by
 have hW':=hW;obtain ⟨p,q,hA0,hV,rfl,hfz,hnd⟩:=hW;have hA:DataW.TrodAll enc Tryz.prog W 0 (fun _ => true) true Tryz.f7.params.toList args.toList ds p:=hA0;rw [Tryz.params7] at hA hval;obtain ⟨v0,v1,v2,v3,d0,d1,d2,d3,p0,p1,p2,p3,rfl,rfl,rfl,h0,h1,h2,h3⟩:=trodAll_four hA;obtain ⟨n0,rfl,rfl,rfl, -⟩:=open_int Tryz.underlying3 (hval 0 3 v0 rfl rfl) h0;obtain ⟨n1,rfl,rfl,rfl, -⟩:=open_int Tryz.underlying3 (hval 1 3 v1 rfl rfl) h1;obtain ⟨A2,xs2,c2,rfl,hr2,hc2,hm2,hn2,hx2⟩:=open_rows (hval 2 22 v2 rfl rfl) h2;obtain ⟨u3,rfl,rfl,rfl,hu3⟩:=open_int Tryz.underlying5 (hval 3 5 v3 rfl rfl) h3;obtain ⟨m3,rfl,hm3⟩:=byte_of_wf hu3;refine (dkinds_any n0 n1 A2 xs2 c2 m3 W (by omega) hx2 hr2).mono fun e W' ⟨hr,hb⟩ => ⟨_,hr,?_⟩;exact law_done laidOut (by kernel_rfl) (by kernel_rfl) Tryz.underlying4 rfl (fun _ => rfl) hW' hb
theorem lifted (os:Os) (started:os.Started) (H:Type) (enc:TypeId × Value → H) :
  ReturnsInHanded {} Tryz.checked os 7 .any (Rows.drainKindsSpec.pre6 enc Tryz.prog Tryz.f7 Rows.drainKindsRow.domain false) (Rows.drainKindsSpec.post enc Tryz.prog Tryz.f7 false true false false):=by
 refine returnsInHanded_of_change (C:=Tryz.checked) own started (by kernel_rfl) Tryz.func7
  (ChangeSpec.witness6 (enc:=enc) (C:=Tryz.checked) false ⟨#[],#[.int .i64 0,.int .i64 0,.slice none 0 0,.int .u8 0],[]⟩ 8 (by kernel_rfl) (by kernel_rfl) (by kernel_rfl) (by kernel_rfl)) ?_
 intro W base args ds gs before hval hW _ _;exact contract H enc W base args ds gs before hval hW
theorem and_t {a b:Bool} (ha:a = true) (hb:b = true):(a && b) = true:=by rw [ha,hb];rfl
theorem closed:joinedFacts Tryz.checked.prog 7 Tryz.f7 Rows.drainKindsSpec Rows.drainKindsRow = true:=by
 unfold joinedFacts;repeat' with_reducible refine and_t ?_ ?_
 all_goals (as_aux_lemma => kernel_rfl)
theorem said:Rows.DrainKindsSaid :=
 OpenClaim.holds_of_wide 7 Tryz.f7 rfl rfl rfl rfl rfl rfl rfl ⟨rfl,rfl,rfl,rfl,rfl⟩ rfl rfl rfl rfl rfl (by kernel_rfl) Tryz.func7 closed
  (of_decide_eq_true (by kernel_rfl)) (by unfold Func.isWrapper;first | (rw [if_pos (by decide +kernel)];kernel_rfl) | (rw [if_neg (by decide +kernel)];exact ⟨rfl,rfl⟩))
  (fun os started H enc _ => lifted os started H enc)
#print axioms said
end Go.Proofs.YtmeodbjlmjpnbaaGreat.lawDrainKinds
