/- DrainKinds holds: of every two kinds, of every row of elements and every byte: it returns true, and nothing that was there has changed. -/
import Derived.Test.YtmeodbjlmjpnbaaGreatPd
import Derived.Test.YtmeodbjlmjpnbaaGreatPa
set_option maxRecDepth 100000
set_option maxHeartbeats 1000000
namespace Go.Proofs.YtmeodbjlmjpnbaaGreat
open Go.Sort Go.RowKit
theorem FH {k:Int}{T:TypeId}{fI fM fN fP fS:FuncId}{At:World→Value→List (Int×Int)→Prop}(K:iT k T fI fM fN fP fS At)(hk:1≤k)(v:Value)(l:List (Int×Int))(z:Nat)(w:World)(ha:At w v l)(hl:l.length<16777216) :
  Calls Tryz.prog 13 #[.pointer none,.agg #[.iface T v],.int .i64 (z:Int)] w fun e w' => ∃sv,e=.returned (.tuple #[sv,.int .i64 0])∧Rw w' sv (l.take z)∧Below w.heap.size w w':=by
 by_cases h0:z=0∨l.length=0
 ·refine (EY K hk v l z 0 w ha hl (by omega) rfl).mono fun e w' ⟨he,hb⟩=>⟨_,he,?_,hb⟩;rw [show l.take z=[] from List.eq_nil_of_length_eq_zero (by rw [List.length_take];omega)];exact Rw.none _
 ·by_cases h1:z≤l.length
  ·exact (xW K hk v l z z w ha hl (.inl ⟨h1,rfl⟩) (by omega)).mono fun e w' ⟨sv,he,hown,hb⟩=>⟨sv,he,hown.rw,hb⟩
  ·refine (xW K hk v l z l.length w ha hl (.inr ⟨by omega,rfl⟩) (by omega)).mono fun e w' ⟨sv,he,hown,hb⟩=>⟨sv,he,?_,hb⟩;rw [List.take_of_length_le (by omega),←List.take_length (l:=l)];exact hown.rw
theorem Fz (u v:Value)(xs ys:List (Int×Int))(w:World)(hx:xs.length<2147483648)(ha:Rw w u xs)(hb:Rw w v ys):Calls Tryz.prog 15 #[u,v] w fun e w'=>e=.returned (.bool (decide (xs=ys)))∧Below w.heap.size w w':=by
 obtain ⟨A,ka,rfl,hra, -⟩:=ha.form;obtain ⟨B,kb,rfl,hrb, -⟩:=hb.form;exact zP A B xs ys ka kb w hx hra hrb
end Go.Proofs.YtmeodbjlmjpnbaaGreat
