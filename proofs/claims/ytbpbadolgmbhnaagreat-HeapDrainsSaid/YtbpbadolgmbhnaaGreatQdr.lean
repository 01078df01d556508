/- The statement HeapDrains: for every number, every two rows of elements and every bool the call returns true, and each argument reads afterwards as it read before. No conditions. -/
import Derived.Test.YtbpbadolgmbhnaaGreatPa
import Derived.Test.YtbpbadolgmbhnaaGreatQd
import Derived.JoinedOf
import Derived.JoinedAt
set_option maxRecDepth 100000
set_option maxHeartbeats 1000000
namespace Go.Proofs.YtbpbadolgmbhnaaGreat.lawHeapDrains
open Go.ChangeShapes Go.WideShapes Go.ChangeAt Go.RowKit
theorem contract (H:Type) (enc:TypeId × Value → H) (W:World) (base:Nat) (args:Array Value) (ds gs:List (DataW H)) (before:List MemPlace)
  (hval:∀ (j:Nat) t v,Tryz.f5.params[j]? = some t → args[j]? = some v → Value.okWide Tryz.prog W .any base t v)
  (hW:DataW.Whole enc Tryz.prog Tryz.f5.params.toList Rows.heapDrainsSpec.vars false W args.toList ds gs before) :
  Calls Tryz.prog 5 args W fun e W' => ∃ v,e = .returned v ∧ Rows.heapDrainsSpec.post enc Tryz.prog Tryz.f5 false true false false W args v W':=by
 have hW':=hW;obtain ⟨p,q,hA0,hV,rfl,hfz,hnd⟩:=hW;have hA:DataW.TrodAll enc Tryz.prog W 0 (fun _ => true) true Tryz.f5.params.toList args.toList ds p:=hA0;rw [Tryz.params5] at hA hval;obtain ⟨v0,v1,v2,v3,d0,d1,d2,d3,p0,p1,p2,p3,rfl,rfl,rfl,h0,h1,h2,h3⟩:=trodAll_four hA;obtain ⟨n0,rfl,rfl,rfl, -⟩:=open_int Tryz.underlying3 (hval 0 3 v0 rfl rfl) h0;obtain ⟨A1,xs1,c1,rfl,hr1,hc1,hm1,hn1,hx1⟩:=open_rows (hval 1 52 v1 rfl rfl) h1;obtain ⟨A2,xs2,c2,rfl,hr2,hc2,hm2,hn2,hx2⟩:=open_rows (hval 2 52 v2 rfl rfl) h2;obtain ⟨z3,rfl,rfl,rfl⟩:=open_bool Tryz.underlying4 (hval 3 4 v3 rfl rfl) h3;refine (drains_any n0 A1 xs1 c1 A2 xs2 c2 z3 W hx1 hx2 hr1 hr2).mono fun e W' ⟨hr,hb⟩ => ⟨_,hr,?_⟩;exact law_done laidOut (by kernel_rfl) (by kernel_rfl) Tryz.underlying4 rfl (fun _ => rfl) hW' hb
theorem lifted (os:Os) (started:os.Started) (H:Type) (enc:TypeId × Value → H) :
  ReturnsInHanded {} Tryz.checked os 5 .any (Rows.heapDrainsSpec.pre6 enc Tryz.prog Tryz.f5 Rows.heapDrainsRow.domain false) (Rows.heapDrainsSpec.post enc Tryz.prog Tryz.f5 false true false false):=by
 refine returnsInHanded_of_change (C:=Tryz.checked) own started (by kernel_rfl) Tryz.func5
  (ChangeSpec.witness6 (enc:=enc) (C:=Tryz.checked) false ⟨#[],#[.int .i64 0,.slice none 0 0,.slice none 0 0,.bool false],[]⟩ 8 (by kernel_rfl) (by kernel_rfl) (by kernel_rfl) (by kernel_rfl)) ?_
 intro W base args ds gs before hval hW _ _;exact contract H enc W base args ds gs before hval hW
theorem said:Rows.HeapDrainsSaid :=
 OpenClaim.holds_of_wide 5 Tryz.f5 rfl rfl rfl rfl rfl rfl rfl ⟨rfl,rfl,rfl,rfl,rfl⟩ rfl rfl rfl rfl rfl (by kernel_rfl) Tryz.func5 (by kernel_rfl)
  (of_decide_eq_true (by kernel_rfl)) (by unfold Func.isWrapper;first | (rw [if_pos (by decide +kernel)];kernel_rfl) | (rw [if_neg (by decide +kernel)];exact ⟨rfl,rfl⟩))
  (fun os started H enc _ => lifted os started H enc)
#print axioms said
end Go.Proofs.YtbpbadolgmbhnaaGreat.lawHeapDrains
