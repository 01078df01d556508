/- Contract of a leftist heap's Show, whatever the table of powers holds. -/
import Derived.Test.YtmeodbjlmjpnbaaGreatPbb
import Derived.Test.YtmeodbjlmjpnbaaGreatPle
import Derived.Test.YtmeodbjlmjpnbaaGreatPa
import Derived.Deep.LoopGhost
import Derived.Test.YtmeodbjlmjpnbaaGreatPt
import Derived.Test.YtmeodbjlmjpnbaaGreatPbi
import Derived.Deep.AppendLies
import Derived.Test.YtmeodbjlmjpnbaaGreatPpb
import Derived.Deep.MidRow
import Derived.Test.YtmeodbjlmjpnbaaGreatPsa
import Derived.Test.YtmeodbjlmjpnbaaGreatPro
set_option maxRecDepth 100000
set_option maxHeartbeats 8000000
namespace Go.Proofs.YtmeodbjlmjpnbaaGreat.Le
open Go.Sort Go.RowKit
def Lh.aM [Tb]:Lh→List UInt8
 | .nil=>[46]
 | .node x l r=>40::(nW x.1 x.2++32::(l.aM++32::(r.aM++[41])))
theorem Lh.cB [Tb]:∀h:Lh,fits h.all→h.aM.length≤48*h.size+1
 | .nil,_=>by simp [Lh.aM,Lh.size]
 | .node x l r,h=>by
  have h1:=dW x.1 x.2 h.cons.1.1 h.cons.1.2;have h2:=l.cB h.cons.2.append.1;have h3:=r.cB h.cons.2.append.2;simp only [Lh.aM,Lh.size,List.length_cons,List.length_append,List.length_nil];omega
def dO [Tb]:List (Lh×Nat)→List UInt8
 | []=>[]
 | (t,e)::ps=>t.aM++(List.replicate e 41++(match ps with | []=>[]|p::r=>32::dO (p::r)))
theorem Bw [Tb](x:Int×Int)(l r:Lh)(e:Nat)(ps:List (Lh×Nat)):dO ((.node x l r,e)::ps)=40::(nW x.1 x.2++32::dO ((l,0)::(r,e+1)::ps)):=by
 cases ps<;>simp [dO,Lh.aM,List.replicate_succ]
theorem wF [Tb](e:Nat):dO [(.nil,e)]=46::List.replicate e 41:=by simp [dO,Lh.aM]
theorem CO [Tb](e:Nat)(p:Lh×Nat)(ps:List (Lh×Nat)):dO ((.nil,e)::p::ps)=46::(List.replicate e 41++32::dO (p::ps)):=by simp [dO,Lh.aM]
end Go.Proofs.YtmeodbjlmjpnbaaGreat.Le
namespace Go.Proofs.YtmeodbjlmjpnbaaGreat.Le
open Go.Sort Go.RowKit
abbrev Ci (p:Option Addr×Nat):Value := .agg #[.pointer p.1,.int .i64 (p.2:Int)]
def dm (ps:List (Option Addr×Nat)):List Value:=ps.flatMap fun p=>[.pointer p.1,.int .i64 (p.2:Int)]
theorem bK (ps:List (Option Addr×Nat)):(dm ps).length=ps.length*2:=by
 induction ps with
 | nil=>rfl
 | cons x r ih=>simp only [dm,List.flatMap_cons,List.length_append,List.length_cons,List.length_nil]at *;omega
theorem dS (xs ys:List (Option Addr×Nat)):dm (xs++ys)=dm xs++dm ys:=by simp [dm]
theorem sP (ps:List (Option Addr×Nat)):∀v∈dm ps,v.oneCell'=true:=by
 intro v hv;simp only [dm,List.mem_flatMap]at hv;obtain ⟨x,_,hx⟩:=hv;simp at hx;rcases hx with rfl|rfl<;>rfl
theorem Ee:(Tryz.prog.info? 357).map (fun i=>(i.zero,i.size,i.bytes))=some (some (.agg #[.pointer none,.int .i64 0]),2,16):=by kernel_rfl
def dZ (w:World)(base:Nat)(v:Value)(ps:List (Option Addr×Nat)):Prop:=w.ownsRow base 357 2 v ps.length (dm ps)
theorem dZ.below {w w':World}{base:Nat}{v:Value}{ps:List (Option Addr×Nat)}(h:dZ w base v ps)(hb:Below w.heap.size w w'):dZ w' base v ps:=by
 refine World.ownsRow.kept h (row:=none) ⟨hb.os,hb.tape,hb.output,hb.size,fun k hk _=>hb.block k hk⟩ ?_
 cases v.ownBlock<;>simp
theorem dZ.kind {w:World}{base:Nat}{v:Value}{ps:List (Option Addr×Nat)}(h:dZ w base v ps):∀k,v.ownBlock=some k→base≤k∧k<w.heap.size ∧ ∃cs,w.heap[k]?=some (.cells cs 357 (0,0)):=by
 intro k hk;rcases h.2 with ⟨rfl, -⟩|⟨g,cap,cur,rfl,hb,hg, -⟩
 ·cases hk
 ·cases hk
  exact ⟨hb,lt_of_heap hg,cur,hg⟩
theorem dZ.wrote {w w':World}{base g:Nat}{l:List UInt8}{v:Value}{ps:List (Option Addr×Nat)}(h:dZ w base v ps)(hB:mD base g l w)(hw:Wrote base g w w'):dZ w' base v ps:=by
 refine ⟨h.1,?_⟩;rcases h.2 with hn|⟨k,cap,cur,rfl,hb,hg,rest⟩
 ·exact .inl hn
 ·refine .inr ⟨k,cap,cur,rfl,hb,hw.heap hg (fun e=>?_) (by decide),rest⟩;obtain ⟨-,cs,h1⟩:=hB.block;rw [←e,hg]at h1
  cases h1
theorem dZ.last {w:World}{base:Nat}{v:Value}{ps:List (Option Addr×Nat)}{x:Option Addr×Nat}(h:dZ w base v (ps++[x])):∃g cap,v=.slice (some ⟨g,0,none⟩) (ps.length+1) cap∧ps.length+1≤cap∧cap≤9223372036854775807 ∧
  w.cell? ⟨g,ps.length*2,none⟩=some (.pointer x.1)∧w.cell? ⟨g,ps.length*2+1,none⟩=some (.int .i64 (x.2:Int))∧dZ w base (.slice (some ⟨g,0,none⟩) ps.length cap) ps:=by
 have h0:=h;have hl:(ps++[x]).length=ps.length+1:=by simp
 rcases h.2 with ⟨-,hn⟩|⟨g,cap,cur,rfl,hb,hg,hc,hm,hs,ht⟩
 ·rw [hl]at hn;omega
 ·rw [hl]at hc ht ⊢;unfold dZ at h0;rw [hl]at h0
  have hcell:∀j u,(dm (ps++[x]))[j]?=some u→w.cell? ⟨g,j,none⟩=some u:=fun j u hu=>by
   have hj:j<(ps.length+1)*2:=by
    have:=(List.getElem?_eq_some_iff.1 hu).1;rw [bK,hl]at this;exact this
   rw [World.ownsRow.cellAt h0 j hj];exact hu
  have e0:(dm (ps++[x]))[ps.length*2]?=some (.pointer x.1):=by
   rw [dS,List.getElem?_append_right (by rw [bK];omega),bK,Nat.sub_self];rfl
  have e1:(dm (ps++[x]))[ps.length*2+1]?=some (.int .i64 (x.2:Int)):=by
   rw [dS,List.getElem?_append_right (by rw [bK];omega),bK,show ps.length*2+1 - ps.length*2=1 by omega];rfl
  refine ⟨g,cap,rfl,hc,by unfold maxLen at hm;omega,hcell _ _ e0,hcell _ _ e1,bK ps,.inr ⟨g,cap,cur,rfl,hb,hg,by omega,hm,hs,?_⟩⟩;rw [show cur.toList.take (ps.length*2)=(cur.toList.take ((ps.length+1)*2)).take (ps.length*2) by rw [List.take_take];congr 1;omega,ht,dS,List.take_append_of_le_length (by rw [bK];omega),List.take_of_length_le (by rw [bK];omega)]
theorem dZ.one (w:World)(p:Option Addr)(e:Nat):dZ (w.alloc (.cells #[.pointer p,.int .i64 (e:Int)] 357)) w.heap.size (.slice (some ⟨w.heap.size,0,none⟩) 1 1) [(p,e)] :=
 ⟨rfl,.inr ⟨w.heap.size,1,#[.pointer p,.int .i64 (e:Int)],rfl,Nat.le_refl _,heap_alloc_new w _,Nat.le_refl _,by unfold maxLen;omega,rfl,rfl⟩⟩
theorem dZ.empty {w:World}{base:Nat}{v:Value}{ps:List (Option Addr×Nat)}(h:dZ w base v ps):∃A c,v=.slice A ps.length c:=by
 rcases h.2 with ⟨rfl,hn⟩|⟨g,cap,cur,rfl, -⟩
 ·exact ⟨none,0,by rw [hn]⟩
 ·exact ⟨_,cap,rfl⟩
theorem Bj (w:World)(base:Nat)(v:Value)(ps:List (Option Addr×Nat))(q1 q2:Option Addr)(e:Nat)(hown:dZ w base v ps)(hlen:ps.length<1073741824)(hb:base≤w.heap.size) :
  ∃v' w',(Builtin.append_ #[358, 358] 358 #[v,.slice (some ⟨w.heap.size,0,none⟩) 2 2]).run Tryz.prog (w.alloc (.cells #[.pointer q1,.int .i64 ((e:Int)+1),.pointer q2,.int .i64 0] 357))=.ok v' w' ∧
   dZ w' base v' (ps++[(q1,e+1),(q2,0)])∧(w.alloc (.cells #[.pointer q1,.int .i64 ((e:Int)+1),.pointer q2,.int .i64 0] 357)).grownBy w' v.ownBlock:=by
 obtain ⟨i0,hi,hz0,hz1,hz2⟩:=info_parts Ee;have hown1:=hown.below ((Below.refl w.heap.size w).alloc (Nat.le_refl _) (.cells #[.pointer q1,.int .i64 ((e:Int)+1),.pointer q2,.int .i64 0] 357))
 have hc:∀j u,(dm [(q1,e+1),(q2,0)])[j]?=some u→(w.alloc (.cells #[.pointer q1,.int .i64 ((e:Int)+1),.pointer q2,.int .i64 0] 357)).cell? ((⟨w.heap.size,0,none⟩:Addr).add j)=some u:=by
  intro j u hu;have ha:(⟨w.heap.size,0,none⟩:Addr).add j=⟨w.heap.size,j,none⟩:=by rw [add_plain,Nat.zero_add]
  rw [ha];have h1:=heap_alloc_new w (.cells #[.pointer q1,.int .i64 ((e:Int)+1),.pointer q2,.int .i64 0] 357);have h2:dm [(q1,e+1),(q2,0)]=[.pointer q1,.int .i64 ((e:Int)+1),.pointer q2,.int .i64 0]:=rfl;rw [h2]at hu;simp only [World.cell?,h1];simpa using hu
 obtain ⟨v',w',h1,h2,h3,_⟩:=run_append_own_at (P:=Tryz.prog) (w.alloc (.cells #[.pointer q1,.int .i64 ((e:Int)+1),.pointer q2,.int .i64 0] 357)) base 358 358 357 i0 _ 2 16 Tryz.underlying358 hi hz0 hz1 hz2 rfl (by omega) v ps.length (dm ps) hown1 ⟨w.heap.size,0,none⟩ 2 2 (dm [(q1,e+1),(q2,0)]) rfl hc (sP _) (by unfold maxLen;omega) (by omega) (by simp only [World.size_alloc];omega);refine ⟨v',w',h1,?_,h3⟩;unfold dZ;rw [dS,List.length_append];exact h2
theorem Aj (c d:UInt8)(t:List UInt8):((⟨#[c]⟩:ByteArray)++⟨t.toArray⟩)++⟨#[d]⟩=⟨(c::(t++[d])).toArray⟩:=by
 rw [pz];exact lC (c::t) [d]
theorem mE {P:Program}{w:World}{ops:Array Oper}{o:Oper}{a:Act}{K:Act→World→Prop}{Q:Exit→Act→World→Prop}{E:Prop}(hgd:o.guard=none)(s x:Operand)(t:TypeId)
  (ho:o.op=.call { callee := .builtin .append,args:=#[s,x],argTypes:=#[t,t] }) (v xv v':Value) (w':World) (hs:a.eval s=v) (hx:a.eval x=xv)
  (hrun:(Builtin.append_ #[t,t] o.type #[v,xv]).run P w=.ok v' w') (h:K (a.put o.dst v') w'):if Region.wanted o (yielded ops a.tmps)=true then Oper.wp P o a w K Q else E:=by
 have hw:Region.wanted o (yielded ops a.tmps)=true:=by simp [Region.wanted,hgd]
 rw [if_pos hw];unfold Oper.wp;simp [execOp,ho,resolve,invoke,builtin,hs,hx,hrun,Result.andThen];exact h
def nX (g:Nat)(v:Value)(w w':World):Prop:=∀(k:Nat) (cs:Array Value) (t:TypeId) (z:Nat×Nat),w.heap[k]?=some (.cells cs t z)→k≠g→t≠5→v.ownBlock≠some k→w'.heap[k]?=some (.cells cs t z)
section
variable {g base:Nat}{v:Value}{u w w':World}
theorem nX.trans (h:nX g v u w)(k:nX g v w w'):nX g v u w':=fun i cs t z hi hg ht hv=>k i cs t z (h i cs t z hi hg ht hv) hg ht hv
theorem nX.below (h:nX g v u w)(k:Below w.heap.size w w'):nX g v u w':=h.trans (fun i _ _ _ hi _ _ _=>(k.block i (lt_of_heap hi)).trans hi)
theorem nX.refl (g:Nat)(v:Value)(w:World):nX g v w w:=fun _ _ _ _ h _ _ _=>h
theorem nX.wrote (h:nX g v u w)(k:Wrote base g w w'):nX g v u w':=h.trans (fun _ _ _ _ hi hg ht _=>k.heap hi hg ht)
theorem nX.grown (h:nX g v u w)(k:w.grownBy w' v.ownBlock):nX g v u w':=h.trans (fun i _ _ _ hi _ _ hv=>(k.block i (lt_of_heap hi) (fun e=>hv e.symm)).trans hi)
end
theorem DT [Tb](base g:Nat)(l:List UInt8)(v:Value)(ps:List (Option Addr×Nat))(x1 x2:Int)(lp rp:Option Addr)(rk sz b e:Nat)(w:World)(hE:∀W,Below base w W→Env W)(hh:w.heap[b]?=some (bB (x1,x2) lp rp rk sz))(hlt:b<base)
  (hx:iw x1∧iw x2) (hB:mD base g l w) (hbw:base≤w.heap.size) (hv:dZ w base v ps) (hn:ps.length<1073741824) (hl:l.length+45≤140737488355328) (he:e<1073741824) :
  Calls Tryz.prog 220 #[Ci (some ⟨b,0,none⟩,e),.pointer (some ⟨g,0,none⟩),v] w fun r w' => ∃v',r=.returned v'∧dZ w' base v' (ps++[(rp,e+1),(lp,0)])∧mD base g (l++40::(nW x1 x2++[32])) w'∧Below base w w'∧nX g v w w':=by
 have hxl:=dW x1 x2 hx.1 hx.2;have n1:¬9223372036854775807<1+(nW x1 x2).length:=by omega
 have n2:¬9223372036854775807<1+(nW x1 x2).length+1:=by omega
 have hb1:Below base w (w.alloc (.cells #[.pointer (some ⟨b,0,none⟩),.int .i64 (e:Int)] 357)):=(Below.refl _ _).alloc hbw _;have hbox:(w.alloc (.cells #[.pointer (some ⟨b,0,none⟩),.int .i64 (e:Int)] 357)).heap[w.heap.size]?=some (.cells #[.pointer (some ⟨b,0,none⟩),.int .i64 (e:Int)] 357 (0,0)):=aJ rfl;have hB1:=hB.stay ((Below.refl w.heap.size w).alloc (Nat.le_refl _) (.cells #[.pointer (some ⟨b,0,none⟩),.int .i64 (e:Int)] 357));have hv1:=hv.below ((Below.refl w.heap.size w).alloc (Nat.le_refl _) (.cells #[.pointer (some ⟨b,0,none⟩),.int .i64 (e:Int)] 357));have HS1:=hdz ((nX.refl g v w).below ((Below.refl w.heap.size w).alloc (Nat.le_refl _) (.cells #[.pointer (some ⟨b,0,none⟩),.int .i64 (e:Int)] 357)));have hne:∀k,v.ownBlock=some k→k≠w.heap.size:=fun k hk=>by have:=(hv.kind k hk).2.1;omega
 have hgne:g<w.heap.size:=by obtain ⟨-,cs,h1⟩:=hB.block;exact lt_of_heap h1
 have HD:=hdz (fun W (h:Below base w W)=>af (hE W h) (af (six ((h.block b hlt).trans hh)) (Nat.le_trans hbw h.size)));have HX:=hdz hx;have HN:=hdz (af hn (af hl (af hxl he)));have H1:=hdz (af hb1 (af hB1 (af hv1 hbox)));have HW:=hdz (af hne (af hgne hbw));have c0:=(HD.out _ hb1).2.1.c0;have c1:=(HD.out _ hb1).2.1.c1;clear hE hh hx hB hv hn hl hxl hb1 hB1 hv1 hbox hne hgne hlt;go_enter Tryz.func220,Tryz.ntmps220
 go_wp2_with fail
 clear c0 c1;generalize w.alloc (.cells #[.pointer (some ⟨b,0,none⟩),.int .i64 (e:Int)] 357)=w1 at *;obtain ⟨a,ha⟩:=aU (w.heap.size);rw [←ha]at H1 HW ⊢;have HA:=hdz ha;clear ha;((with_reducible refine (qN (x1,x2) HX.out _ (HD.out _ H1.out.1).1).mono ?_);rintro r w2 ⟨rfl,hb2⟩);have H2:=hdz (af (H1.out.1.trans (hb2.mono (HD.out _ H1.out.1).2.2)) (af (H1.out.2.1.stay hb2) (af (H1.out.2.2.1.below hb2) ((hb2.block a (lt_of_heap H1.out.2.2.2)).trans H1.out.2.2.2))));have HS2:=hdz (HS1.out.below hb2);clear hb2 H1;go_wp2_with fail
 ((with_reducible refine (lS base g l (40::(nW x1 x2++[32])) _ _ (Aj _ _ _) H2.out.2.1 (by have:=HN.out;simp only [List.length_append,List.length_cons,List.length_nil];omega) (HD.out _ H2.out.1).2.2).mono ?_);rintro r w3 ⟨v3,rfl,hB3,hw3⟩);have hbe3:=H2.out.1.trans hw3.below;have hv3:=H2.out.2.2.1.wrote H2.out.2.1 hw3;have hx3:=hw3.heap H2.out.2.2.2 (Nat.ne_of_gt HW.out.2.1) (by decide);obtain ⟨v4,w4,hrun,hown4,hg4⟩:=Bj w3.drew base v ps rp lp e (hv3.below ((Below.refl _ _).drew)) HN.out.1 (show base≤w3.heap.size from (HD.out _ hbe3).2.2)
 have hgr:∀k,v.ownBlock=some k → ∃cs t fz,(w3.drew.alloc (.cells #[.pointer rp,.int .i64 ((e:Int)+1),.pointer lp,.int .i64 0] 357)).heap[k]?=some (.cells cs t fz)∧t≠355∧t≠5 := fun k hk=>by
  obtain ⟨-,h2,cs,h3⟩:=hv3.kind k hk;exact ⟨cs, 357,(0,0),(alloc_old _ h2).trans h3,by decide,by decide⟩
 have hB4:mD base g (l++40::(nW x1 x2++[32])) w4:=(hB3.stay (((Below.refl w3.heap.size w3).drew).alloc (Nat.le_refl _) _)).grown hg4 hgr;have hbe4:Below base w w4:=below_grown (hbe3.drew.alloc (show base≤w3.heap.size from (HD.out _ hbe3).2.2) _) hg4 (by have:=(HD.out _ hbe3).2.2;simp only [World.size_alloc];exact Nat.le_trans this (Nat.le_succ _)) (fun k hk=>(hv3.kind k hk).1);have HS4:=hdz ((((HS2.out.wrote hw3).below ((Below.refl w3.heap.size w3).drew)).below ((Below.refl w3.drew.heap.size w3.drew).alloc (Nat.le_refl _) _)).grown hg4);have hwr:IntKind.i64.wrap ((e:Int)+1)=(e:Int)+1:=by rw [IntKind.wrap_i64];have:=HN.out;omega
 have s3:=(HD.out _ hbe3).2.1;have s4:=(HD.out _ hbe4).2.1;have c2:=s3.c2;have c3:=s3.c3;have d2:=s4.c2;have d3:=s4.c3;have b3:w3.cell? ⟨a,1,none⟩=some (.int .i64 (e:Int)):=by simp [World.cell?,hx3]
 have b4:w4.cell? ⟨a,1,none⟩=some (.int .i64 (e:Int)):=by
  have h4:=(hg4.block a (by have:=lt_of_heap hx3;simp only [World.size_alloc];exact Nat.lt_succ_of_lt this) (fun ek=>HW.out.1 a ek.symm rfl)).trans ((alloc_old _ (show a<w3.drew.heap.size from lt_of_heap hx3)).trans hx3);simp [World.cell?,h4]
 have H4:=hdz (af hown4 (af hB4 hbe4));have HR:=hdz hrun;clear hbe3 hv3 hx3 hrun hown4 hg4 hgr hB4 hbe4 s3 s4 hB3 hw3 H2 n1 n2;go_wp2_with fail
 go_region_held3 (fun w'=>w'.cell? ⟨b,2,none⟩=some (.pointer lp)∧w'.cell? ⟨b,3,none⟩=some (.pointer rp)∧w'.cell? ⟨a,1,none⟩=some (.int .i64 (e:Int))) (go_keep)
  (first|(refine mE rfl _ _ _ rfl _ _ _ _ rfl rfl HR.out ?_))
 go_wp2_with fail
 go_ret
 exact ⟨_,rfl,H4.out.1,H4.out.2.1,H4.out.2.2,HS4.out⟩
end Go.Proofs.YtmeodbjlmjpnbaaGreat.Le
namespace Go.Proofs.YtmeodbjlmjpnbaaGreat.Le
open Go.Sort Go.RowKit
theorem qa (e:Nat)(he:e<1073741824)(w:World):Calls Tryz.prog 233 #[.string ⟨#[41]⟩,.int .i64 (e:Int)] w fun r w'=>r=.returned (.string ⟨(List.replicate e (41:UInt8)).toArray⟩)∧Below w.heap.size w w' :=
 (Tryz.strings_Repeat ⟨#[41]⟩ e w (by omega) (by show 1*e≤_;omega)).mono fun _ _ ⟨hr,hb⟩=>⟨by
  rw [hr,show (⟨#[41]⟩:ByteArray).data.toList=List.replicate 1 41 from rfl,Lib.repeatL_replicate,Nat.mul_one],hb⟩
def sep (ps:List (Option Addr×Nat)):List UInt8:=if ps.length=0 then [] else [32]
theorem CK (base g:Nat)(l:List UInt8)(v:Value)(ps:List (Option Addr×Nat))(e:Nat)(w:World)(hp:0<ps.length)(hE:∀W,Below base w W→base≤W.heap.size)
  (hB:mD base g l w) (hv:dZ w base v ps) (hl:l.length+e+45≤140737488355328) (he:e<1073741824) :
  Calls Tryz.prog 220 #[Ci (none,e),.pointer (some ⟨g,0,none⟩),v] w fun r w' => ∃v',r=.returned v'∧dZ w' base v' ps∧mD base g (l++46::(List.replicate e 41++sep ps)) w'∧Below base w w'∧nX g v w w':=by
 have hbw:base≤w.heap.size:=hE w (Below.refl _ _);obtain ⟨A,k,rfl⟩:=hv.empty;have HS1:=hdz ((nX.refl g (.slice A ps.length k) w).below ((Below.refl w.heap.size w).alloc (Nat.le_refl _) (.cells #[.pointer none,.int .i64 (e:Int)] 357)));have hb1:Below base w (w.alloc (.cells #[.pointer none,.int .i64 (e:Int)] 357)):=(Below.refl _ _).alloc hbw _;have hB1:=hB.stay ((Below.refl w.heap.size w).alloc (Nat.le_refl _) (.cells #[.pointer none,.int .i64 (e:Int)] 357));have hv1:=hv.below ((Below.refl w.heap.size w).alloc (Nat.le_refl _) (.cells #[.pointer none,.int .i64 (e:Int)] 357));have hlen:(List.replicate e (41:UInt8)).length=e:=List.length_replicate;have HC:=hdz (fun W=>qa e he W);have HZ:=hdz (show (l++46::List.replicate e 41)++[32]=l++46::(List.replicate e 41++sep ps) by unfold sep;rw [if_neg (by omega)];simp);generalize List.replicate e (41:UInt8)=R at *;have n1:¬9223372036854775807<1+R.length:=by omega
 have q1:decide ((0:Int)<(ps.length:Int))=true:=by simp;omega
 have q2:(0:Int)<(ps.length:Int):=by omega
 have q3:0<ps.length:=hp;have HN:=hdz (af hl (af hlen he));have H1:=hdz (af hb1 (af hB1 hv1));have HD:=hdz hE;generalize ps.length=n at *;clear hE hB hv hl he hlen hb1 hB1 hv1 hbw;go_enter Tryz.func220,Tryz.ntmps220
 go_wp2_with fail
 ((with_reducible refine (HC.out _).mono ?_);rintro r w2 ⟨rfl,hb2⟩);have H2:=hdz (af (H1.out.1.trans (hb2.mono (HD.out _ H1.out.1))) (af (H1.out.2.1.stay hb2) (H1.out.2.2.below hb2)));have HS2:=hdz (HS1.out.below hb2);clear hb2 H1;go_wp2_with fail
 ((with_reducible refine (lS base g l (46::R) _ _ (pz _ _) H2.out.2.1 (by have:=HN.out;simp only [List.length_cons];omega) (HD.out _ H2.out.1)).mono ?_);rintro r w3 ⟨v3,rfl,hB3,hw3⟩);have H3:=hdz (af (H2.out.1.trans hw3.below) (af hB3 (H2.out.2.2.wrote H2.out.2.1 hw3)));have HS3:=hdz (HS2.out.wrote hw3);clear hB3 hw3 H2 n1;go_wp2_with fail
 ((with_reducible refine (lS base g (l++46::R) [32] _ _ rfl H3.out.2.1 (by have:=HN.out;simp only [List.length_append,List.length_cons,List.length_nil];omega) (HD.out _ H3.out.1)).mono ?_);rintro r w4 ⟨v4,rfl,hB4,hw4⟩);have H4:=hdz (af (H3.out.1.trans hw4.below) (af hB4 (H3.out.2.2.wrote H3.out.2.1 hw4)));have HS4:=hdz (HS3.out.wrote hw4);clear hB4 hw4 H3;go_wp2_with fail
 go_ret
 exact ⟨_,rfl,H4.out.2.2,by rw [←HZ.out];exact H4.out.2.1,H4.out.1,HS4.out⟩
theorem D5 (base g:Nat)(l:List UInt8)(v:Value)(ps:List (Option Addr×Nat))(e:Nat)(w:World)(hp:ps=[])(hE:∀W,Below base w W→base≤W.heap.size)
  (hB:mD base g l w) (hv:dZ w base v ps) (hl:l.length+e+45≤140737488355328) (he:e<1073741824) :
  Calls Tryz.prog 220 #[Ci (none,e),.pointer (some ⟨g,0,none⟩),v] w fun r w' => ∃v',r=.returned v'∧dZ w' base v' ps∧mD base g (l++46::(List.replicate e 41++sep ps)) w'∧Below base w w'∧nX g v w w':=by
 subst hp;have hbw:base≤w.heap.size:=hE w (Below.refl _ _);obtain ⟨A,k,rfl⟩:=hv.empty;have HS1:=hdz ((nX.refl g (.slice A 0 k) w).below ((Below.refl w.heap.size w).alloc (Nat.le_refl _) (.cells #[.pointer none,.int .i64 (e:Int)] 357)));have hb1:Below base w (w.alloc (.cells #[.pointer none,.int .i64 (e:Int)] 357)):=(Below.refl _ _).alloc hbw _;have hB1:=hB.stay ((Below.refl w.heap.size w).alloc (Nat.le_refl _) (.cells #[.pointer none,.int .i64 (e:Int)] 357));have hv1:=hv.below ((Below.refl w.heap.size w).alloc (Nat.le_refl _) (.cells #[.pointer none,.int .i64 (e:Int)] 357));have hlen:(List.replicate e (41:UInt8)).length=e:=List.length_replicate;have HC:=hdz (fun W=>qa e he W);have HZ:=hdz (show (l++46::List.replicate e 41)++[]=l++46::(List.replicate e 41++sep []) by unfold sep;rw [if_pos (by rfl)];simp);generalize List.replicate e (41:UInt8)=R at *;have n1:¬9223372036854775807<1+R.length:=by omega
 have HN:=hdz (af hl (af hlen he));have H1:=hdz (af hb1 (af hB1 hv1));have HD:=hdz hE;clear hE hB hv hl he hlen hb1 hB1 hv1 hbw;go_enter Tryz.func220,Tryz.ntmps220
 go_wp2_with fail
 ((with_reducible refine (HC.out _).mono ?_);rintro r w2 ⟨rfl,hb2⟩);have H2:=hdz (af (H1.out.1.trans (hb2.mono (HD.out _ H1.out.1))) (af (H1.out.2.1.stay hb2) (H1.out.2.2.below hb2)));have HS2:=hdz (HS1.out.below hb2);clear hb2 H1;go_wp2_with fail
 ((with_reducible refine (lS base g l (46::R) _ _ (pz _ _) H2.out.2.1 (by have:=HN.out;simp only [List.length_cons];omega) (HD.out _ H2.out.1)).mono ?_);rintro r w3 ⟨v3,rfl,hB3,hw3⟩);have H3:=hdz (af (H2.out.1.trans hw3.below) (af hB3 (H2.out.2.2.wrote H2.out.2.1 hw3)));have HS3:=hdz (HS2.out.wrote hw3);clear hB3 hw3 H2 n1;go_wp2_with fail
 go_ret
 exact ⟨_,rfl,H3.out.2.2,by rw [←HZ.out,List.append_nil];exact H3.out.2.1,H3.out.1,HS3.out⟩
theorem dZ.lower {w:World}{base base':Nat}{v:Value}{ps:List (Option Addr×Nat)}(h:dZ w base v ps)(hb:base'≤base):dZ w base' v ps :=
 ⟨h.1,h.2.imp id (fun ⟨g,cap,cur,a,b,r⟩=>⟨g,cap,cur,a,Nat.le_trans hb b,r⟩)⟩
def gM (W:World):List (Lh×Nat)→List (Option Addr×Nat)→Prop
 | [],[]=>True
 | (t,e)::ts,(p,e')::ps=>aA W t p∧e=e'∧fits t.all∧gM W ts ps
 | _,_=>False
theorem gM.cons {W:World}{ts:List (Lh×Nat)}{q:Option Addr×Nat}{qs:List (Option Addr×Nat)}(h:gM W ts (q::qs)):∃t e r,ts=(t,e)::r∧aA W t q.1∧e=q.2∧fits t.all∧gM W r qs:=by
 match ts,h with
 | (t,e)::r,h=>exact ⟨t,e,r,rfl,h⟩
theorem gM.nil {W:World}{ts:List (Lh×Nat)}(h:gM W ts []):ts=[]:=by
 match ts,h with
 | [],_=>rfl
theorem vR {W:World}:∀{ts:List (Lh×Nat)} {qs:List (Option Addr×Nat)},gM W ts qs→qs.length≤fB ts
 | [],[],_=>Nat.le_refl _
 | (t,e)::ts,(p,e')::ps,h=>by have:=vR h.2.2.2;simp only [List.length_cons,fB];omega
 | [],_::_,h=>h.elim
 | _::_,[],h=>h.elim
theorem CV [Tb](t:Lh)(e:Nat)(ts:List (Lh×Nat)):e≤(dO ((t,e)::ts)).length:=by
 cases ts<;>simp [dO]<;>omega
theorem Ez [Tb](w0:World)(he:Env w0)(u:Lh)(e:Nat)(r:List (Lh×Nat))(q1:Option Addr)(qs:List (Option Addr×Nat))(g:Nat)(pre:List UInt8)(v:Value)(W:World)(hl:aA w0 u q1)(hf:fits u.all)(hwr:gM w0 r qs)(hg:w0.heap.size≤g)
  (hbe:Below w0.heap.size w0 W) (hgs:g≤W.heap.size) (hB:mD g g pre W) (hq:dZ W g v qs.reverse) (hn:qs.length<33554433) (hp:pre.length+(dO ((u,e)::r)).length<1073741000) :
  Calls Tryz.prog 220 #[Ci (q1,e),.pointer (some ⟨g,0,none⟩),v] W fun x w' => ∃v' ts' qs' pre',x=.returned v'∧dZ w' g v' qs'.reverse∧gM w0 ts' qs'∧pre'++dO ts'=pre++dO ((u,e)::r)∧fB ts'<fB ((u,e)::r)∧mD g g pre' w'∧Below g W w'∧nX g v W w':=by
 have hee:=CV u e r
 cases u with
 | nil =>
  obtain rfl:=hl
  cases qs with
  | nil =>
   obtain rfl:=hwr.nil;refine (D5 g g pre v [] e W rfl (fun w' h=>Nat.le_trans hgs h.size) hB hq (by omega) (by omega)).mono fun x w' ⟨v',hx,h1,h2,h3,h4⟩=>⟨v',[],[],_,hx,h1,trivial,?_,by simp [fB],h2,h3,h4⟩;rw [wF];simp [dO,sep]
  | cons q qs =>
   obtain ⟨t',e',r',rfl,hl',he',hf',hwr'⟩:=hwr.cons;refine (CK g g pre v (q::qs).reverse e W (by simp) (fun w' h=>Nat.le_trans hgs h.size) hB hq (by omega) (by omega)).mono fun x w' ⟨v',hx,h1,h2,h3,h4⟩=>⟨v',(t',e')::r',q::qs,_,hx,h1,⟨hl',he',hf',hwr'⟩,?_,by simp [fB],h2,h3,h4⟩;rw [CO];simp [sep]
 | node x l r' =>
  obtain ⟨b,lp,rp,rfl,hb,h1,h2⟩:=hl;obtain ⟨x1,x2⟩:=x;have hrev:((lp,0)::(rp,e+1)::qs).reverse=qs.reverse++[(rp,e+1),(lp,0)]:=by simp
  have hlt:=lt_of_heap hb;refine (DT g g pre v qs.reverse x1 x2 lp rp _ _ b e W (fun w' h=>he.below (hbe.trans (h.mono hg))) ((hbe.block b hlt).trans hb) (by omega) hf.cons.1 hB hgs hq (by rw [List.length_reverse];omega) (by omega) (by omega)).mono fun x w' ⟨v',hx,k1,k2,k3,k4⟩=>⟨v',(l,0)::(r',e+1)::r,(lp,0)::(rp,e+1)::qs,_,hx,by rw [hrev];exact k1,⟨h1,rfl,hf.cons.2.append.1,h2,rfl,hf.cons.2.append.2,hwr⟩,?_,by simp only [fB,Lh.size];omega,k2,k3,k4⟩;rw [Bw];simp
theorem gI [Tb](t:Lh)(p:Option Addr)(w:World)(he:Env w)(h:aA w t p)(hf:fits t.all)(h1:t.size<16777216) :
  Calls Tryz.prog 206 #[hp p] w fun e w'=>e=.returned (.string ⟨t.aM.toArray⟩)∧Below w.heap.size w w':=by
 have hs:=t.cB hf
 have hb1:Below w.heap.size w (((w.alloc (.cells #[.pointer p] 101)).alloc (.cells #[.pointer none,.slice none 0 0] 355)).alloc (.cells #[.pointer p,.int .i64 0] 357)) :=
  ((bG _).alloc (by simp) _).alloc (by simp only [World.size_alloc];omega) _
 have hB1:mD (w.heap.size+1) (w.heap.size+1) [] (((w.alloc (.cells #[.pointer p] 101)).alloc (.cells #[.pointer none,.slice none 0 0] 355)).alloc (.cells #[.pointer p,.int .i64 0] 357)):=by
  have hz:=(qw (w.alloc (.cells #[.pointer p] 101))).stay (bG (.cells #[.pointer p,.int .i64 0] 357));rw [World.size_alloc]at hz;exact hz
 have hq1:dZ (((w.alloc (.cells #[.pointer p] 101)).alloc (.cells #[.pointer none,.slice none 0 0] 355)).alloc (.cells #[.pointer p,.int .i64 0] 357)) (w.heap.size+1) (.slice (some ⟨w.heap.size+1+1,0,none⟩) 1 1) [(p,0)]:=by
  have hz:=dZ.one ((w.alloc (.cells #[.pointer p] 101)).alloc (.cells #[.pointer none,.slice none 0 0] 355)) p 0;simp only [World.size_alloc]at hz;exact dZ.lower hz (by omega)
 have HT:=hdz (af he (af h (af hf (af h1 hs))));have H1:=hdz (af hb1 (af hB1 hq1));clear he h hf h1 hs hb1 hB1 hq1;go_enter Tryz.func206,Tryz.ntmps206
 go_wp2_with fail
 generalize ((w.alloc (.cells #[.pointer p] 101)).alloc (.cells #[.pointer none,.slice none 0 0] 355)).alloc (.cells #[.pointer p,.int .i64 0] 357)=w1 at *;obtain ⟨g,hg⟩:=aU (w.heap.size+1);rw [←hg]at H1 ⊢;have HG:=hdz (show w.heap.size≤g by omega);clear hg;go_loopg [4] (fB [(t,0)]) (fun k v wr => ∃(ts:List (Lh×Nat)) (qs:List (Option Addr×Nat)) (pre:List UInt8),dZ wr g v qs.reverse∧gM w ts qs∧pre++dO ts=t.aM∧k=fB ts∧fB ts≤fB [(t,0)]∧mD g g pre wr∧Below w.heap.size w wr∧g≤wr.heap.size)
 case atStart=>exact ⟨[(t,0)],[(p,0)],[],H1.out.2.2,⟨HT.out.2.1,rfl,HT.out.2.2.1,trivial⟩,by simp [dO],rfl,Nat.le_refl _,H1.out.2.1,H1.out.1,by obtain ⟨-,cs,hz⟩:=H1.out.2.1.block;exact Nat.le_of_lt (lt_of_heap hz)⟩
 case round =>
  obtain ⟨ts,qs,pre,hq,hw,ht,hk,hle,hB,hbe,hgs⟩:=hrel
  cases qs with
  | nil =>
   obtain rfl:=hw.nil;obtain ⟨A,c,rfl⟩:=hq.empty;have X:=hdz (af ht (af hB (af hbe hgs)));clear hq hw ht hk hle hB hbe hgs;go_wp2_with fail
   ((with_reducible refine (sQ g g pre _ X.out.2.1 X.out.2.2.2).mono ?_);rintro e w2 ⟨rfl,hb2⟩);have B2:=hdz (X.out.2.2.1.trans (hb2.mono HG.out));clear hb2;go_wp2_with fail
   go_ret
   obtain ⟨ht, -⟩:=X.out;simp only [dO,List.append_nil]at ht;exact ⟨by rw [←ht];rfl,B2.out⟩
  | cons q qs =>
   rw [List.reverse_cons]at hq;obtain ⟨b,cap,rfl,hc1,hc2,hx0,hx1,hq'⟩:=hq.last;obtain ⟨u,e,r,rfl,hl,he,hf,hwr⟩:=hw.cons;obtain ⟨q1,q2⟩:=q;simp only at hx0 hx1 hl he;subst he;have hn1:qs.reverse.length=qs.length:=List.length_reverse;rw [hn1]at hc1 hx0 hx1 hq' ⊢;have hlen:=vR hwr;have hsz:fB [(t,0)]<33554433:=by have:=HT.out.2.2.2.1;simp only [fB];omega
   have hwN:fB ((u,e)::r)=2*u.size+1+fB r:=rfl;have hnl:qs.length<33554433:=by omega
   obtain ⟨L,hL⟩:=aU (qs.length+1);obtain ⟨n,hnn⟩:=aU (qs.length);rw [←hnn]at hx0 hx1 hq' hnl;rw [←hL]at hc1;rw [←hL];have g1:decide ((0:Int)<(L:Int))=true:=by simp;omega
   have g2:(0:Int)<(L:Int):=by omega
   have g3:0<L:=by omega
   have g4:IntKind.i64.wrap ((L:Int) - 1)=(n:Int):=by rw [IntKind.wrap_i64];omega
   have g5:(0:Int)≤(n:Int):=by omega
   have g6:(n:Int)<(L:Int):=by omega
   have g7:n<L:=by omega
   have g8:n≤cap:=by omega
   have X:=hdz (af ht (af hB (af hbe (af hgs (af hl (af hf (af hwr (af hk (af hle (af hq' (af hL hnn)))))))))));clear hq hw ht hk hle hB hbe hgs hl hf hwr hlen hsz hwN hn1 hq' hL hnn;go_wp2_with fail
   have hrow:=X.out.2.2.2.2.2.2.2.2.2.1;have hblt:∃cs,wr.heap[b]?=some (.cells cs 357 (0,0)):=(hrow.kind b rfl).2.2;have hglt:∃cs,wr.heap[g]?=some (.cells cs 355 (0,0)):=X.out.2.1.block.2;have hb0:Below wr.heap.size wr (wr.alloc (.cells #[.pointer q1,.int .i64 (e:Int)] 357)).drew:=(bG _).drew;have hbox:(wr.alloc (.cells #[.pointer q1,.int .i64 (e:Int)] 357)).drew.heap[wr.heap.size]?=some (.cells #[.pointer q1,.int .i64 (e:Int)] 357 (0,0)):=aJ (W:=wr) (n:=wr.heap.size) rfl
   have HC:=Ez w HT.out.1 u e r q1 qs g pre (.slice (some ⟨b,0,none⟩) n cap) (wr.alloc (.cells #[.pointer q1,.int .i64 (e:Int)] 357)).drew X.out.2.2.2.2.1 X.out.2.2.2.2.2.1 X.out.2.2.2.2.2.2.1 HG.out (X.out.2.2.1.trans (hb0.mono X.out.2.2.1.size)) (Nat.le_trans X.out.2.2.2.1 hb0.size) (X.out.2.1.stay hb0) (hrow.below hb0) (by have:=X.out;omega)
    (by have h5:=congrArg List.length X.out.1;have h6:=HT.out.2.2.2;simp only [List.length_append]at h5;omega)
   have HCC:=hdz HC;have HBX:=hdz (af hb0 (af hbox (af hblt hglt)));obtain ⟨a,ha⟩:=aU (wr.heap.size);rw [←ha]at HBX ⊢;have HA:=hdz ha;generalize wr.alloc (.cells #[.pointer q1,.int .i64 (e:Int)] 357)=w2 at *;have x0:w2.cell? ⟨a,0,none⟩=some (.pointer q1):=by have:=HBX.out.2.1;simp only [World.cell?];rw [show w2.heap[a]?=_ from this];rfl
   have x1:w2.cell? ⟨a,1,none⟩=some (.int .i64 (e:Int)):=by have:=HBX.out.2.1;simp only [World.cell?];rw [show w2.heap[a]?=_ from this];rfl
   clear hrow hblt hglt hb0 hbox HC ha hx0 hx1
   go_region_held3 (fun w'=>w'.cell? ⟨a,0,none⟩=some (.pointer q1)∧w'.cell? ⟨a,1,none⟩=some (.int .i64 (e:Int))) (go_keep)
    (first|(go_at_call 220;((with_reducible refine HCC.out.mono ?_);rintro y w3 ⟨v3,ts3,qs3,pre3,rfl,h31,h32,h33,h34,h35,h36,h37⟩;have hbox3:=(h37 a _ _ _ HBX.out.2.1 (by have:=HBX.out.2.2.2;obtain ⟨_,h5⟩:=this;have:=lt_of_heap h5;have:=HA.out;omega) (by decide) (by have:=HBX.out.2.2.1;obtain ⟨_,h5⟩:=this;have:=lt_of_heap h5;have:=HA.out;simp [Value.ownBlock];omega));have y0:w3.cell? ⟨a,0,none⟩=some (.pointer q1):=(by simp [World.cell?,hbox3]);have y1:w3.cell? ⟨a,1,none⟩=some (.int .i64 (e:Int)):=(by simp [World.cell?,hbox3]);have Z:=hdz (af h31 (af h32 (af h33 (af h34 (af h35 h36)))));clear h31 h32 h33 h34 h35 h36 h37 hbox3)))
   go_wp2_with fail
   obtain ⟨h31,h32,h33,h34,h35,h36⟩:=Z.out;have hbz:=X.out.2.2.1.trans (HBX.out.1.mono (by have:=X.out.2.2.1.size;have:=HA.out;omega));go_roundg (fB ts3)
   case measure=>have:=X.out.2.2.2.2.2.2.2.1;omega
   case rel=>exact ⟨ts3,qs3,pre3,h31,h32,h33.trans X.out.1,rfl,by have:=X.out.2.2.2.2.2.2.2.2.1;omega,h35,hbz.trans (h36.mono HG.out),by have:=X.out.2.2.2.1;have:=HBX.out.1.size;have:=HA.out;have:=h36.size;exact Nat.le_trans (Nat.le_trans X.out.2.2.2.1 (by omega)) h36.size⟩
end Go.Proofs.YtmeodbjlmjpnbaaGreat.Le
namespace Go.Proofs.YtmeodbjlmjpnbaaGreat
open Go.Sort Go.RowKit
def dI [Tb](bs:List (Int×Int)):List UInt8:=bs.flatMap fun b=>32::43::nW b.1 b.2
def ay.aM [Tb]:ay→List UInt8
 | .nil=>[]
 | .cons x bs ks r=>(32::40::(nW x.1 x.2++(dI bs++(ks.aM++[41]))))++r.aM
def ai.aM [Tb](t:ai):List UInt8:=40::(nW t.x.1 t.x.2++(dI t.bs++(t.ks.aM++[41])))
theorem fq [Tb]:∀(bs:List (Int×Int)),fits bs→(dI bs).length≤46*bs.length
 | [],_=>by simp [dI]
 | b::bs,h=>by
  have h1:=dW b.1 b.2 h.cons.1.1 h.cons.1.2;have ih:=fq bs h.cons.2;simp only [dI,List.flatMap_cons,List.length_append,List.length_cons]at *;omega
theorem ay.cB [Tb]:∀w:ay,fits w.all→w.aM.length≤46*w.size
 | .nil,_=>by simp [ay.aM]
 | .cons x bs ks r,h=>by
  have h0:=(h.append).1.cons;have h1:=dW x.1 x.2 h0.1.1 h0.1.2;have h2:=fq bs h0.2.append.1;have h3:=ks.cB h0.2.append.2;have h4:=r.cB h.append.2;simp only [ay.aM,ay.size,List.length_append,List.length_cons,List.length_nil]at *;omega
end Go.Proofs.YtmeodbjlmjpnbaaGreat
namespace Go.Proofs.YtmeodbjlmjpnbaaGreat
open Go.Sort Go.RowKit
def kD [Tb]:List ai→List UInt8
 | []=>[]
 | t::r=>32::(t.aM++kD r)
def nI [Tb]:List ai→List UInt8
 | []=>[46]
 | t::r=>t.aM++kD r
end Go.Proofs.YtmeodbjlmjpnbaaGreat
namespace Go.Proofs.YtmeodbjlmjpnbaaGreat
open Go.Sort Go.RowKit
theorem Eo (c d:UInt8)(t:List UInt8):(⟨#[c,d]⟩:ByteArray)++⟨t.toArray⟩=⟨(c::d::t).toArray⟩:=lC [c,d] t
theorem Da [Tb](n:Nat)
  (ih:∀(x:Int×Int) (bs:List (Int×Int)) (ks:ay),1+bs.length+ks.size<n → ∀(w0:World),Env w0 → ∀(b:Nat),oz w0 b ⟨x,bs,ks⟩→fits (x::(bs++ks.all)) → ∀(base:Nat),w0.heap.size≤base → ∀(g:Nat) (l:List UInt8) (w:World),Below w0.heap.size w0 w→base≤w.heap.size→mD base g l w →
   l.length+46*(1+bs.length+ks.size)+10≤140737488355328→Calls Tryz.prog 237 #[.pointer (some ⟨b,0,none⟩),.pointer (some ⟨g,0,none⟩)] w fun e w'=>e=.returned (.tuple #[])∧mD base g (l++ai.aM ⟨x,bs,ks⟩) w'∧Below base w w')
  (x1 x2:Int) (bs:List (Int×Int)) (ks:ay) (hn:1+bs.length+ks.size=n) (w0:World) (he:Env w0) (b:Nat) (ht:oz w0 b ⟨(x1,x2),bs,ks⟩) (hf:fits ((x1,x2)::(bs++ks.all))) (base:Nat) (hb0:w0.heap.size≤base) (g:Nat) (l:List UInt8) (w:World)
  (hW:Below w0.heap.size w0 w) (hbw:base≤w.heap.size) (hB:mD base g l w) (hl:l.length+46*(1+bs.length+ks.size)+10≤140737488355328) :
  Calls Tryz.prog 237 #[.pointer (some ⟨b,0,none⟩),.pointer (some ⟨g,0,none⟩)] w fun e w'=>e=.returned (.tuple #[])∧mD base g (l++ai.aM ⟨(x1,x2),bs,ks⟩) w'∧Below base w w':=by
 obtain ⟨bp,kp,hh,hBs,hK⟩:=ht;have hlt:b<w0.heap.size:=lt_of_heap hh;have s6:=six ((hW.block b hlt).trans hh);have c0:=s6.c0;have c1:=s6.c1;obtain ⟨⟨hx1,hx2⟩,hf2⟩:=hf.cons;obtain ⟨hfb,hfk⟩:=hf2.append;have hxl:=dW x1 x2 hx1 hx2;have hbl:=fq bs hfb;have hkl:=ks.cB hfk;have H:=hdz (af hh (af hBs (af hK (af hW (af hlt (af hn (af hl hbl)))))));have HF:=hdz (af hx1 (af hx2 (af hfb (af hfk (af hxl hkl)))));have HI:=hdz ih;have HE:=hdz he;have HB:=hdz (af hbw hB);have n1:¬9223372036854775807<1+(nW x1 x2).length:=by omega
 have hD:∀(W:World),Below base w W→Am W b (x1,x2) bp (ks.len:Int) kp (bs.length+ks.size:Nat)∧Env W∧base≤W.heap.size∧Below w0.heap.size w0 W:=fun _ h=>⟨six (((hW.trans (h.mono hb0)).block b hlt).trans hh),he.below (hW.trans (h.mono hb0)),Nat.le_trans hbw h.size,hW.trans (h.mono hb0)⟩;have HD:=hdz hD;clear hh hBs hK hW hlt hn hl s6 hx1 hx2 hf hf2 hfb hfk hxl hbl hkl ih he hbw hB hD;go_enter Tryz.func237,Tryz.ntmps237
 go_wp2_with fail
 ((with_reducible refine (fV (x1,x2) _).mono ?_);rintro e w1 ⟨rfl,hb1⟩);have hb1':Below base w w1:=hb1.mono HB.out.1;go_wp2_with fail
 ((with_reducible refine (qN (x1,x2) ⟨HF.out.1,HF.out.2.1⟩ _ (HD.out _ hb1').2.1).mono ?_);rintro e w2 ⟨rfl,hb2⟩);have hb2':Below base w w2:=hb1'.trans (hb2.mono (HD.out _ hb1').2.2.1);have B2:=hdz (af ((HB.out.2.stay hb1).stay hb2) hb2');clear hb1 hb1' hb2 hb2' c0 c1;go_wp2_with fail
 ((with_reducible refine (lS base g l (40::nW x1 x2) _ _ (pz _ _) B2.out.1 (by have:=H.out.2.2.2.2.2.2.1;have:=HF.out.2.2.2.2.1;simp only [List.length_cons];omega) (HD.out _ B2.out.2).2.2.1).mono ?_);rintro e w3 ⟨v3,rfl,hB3,hb3⟩);replace hb3:=hb3.below;have B3:=hdz (af hB3 (B2.out.2.trans hb3));have s6:=(HD.out _ B3.out.2).1;have c2:=s6.c2;clear hB3 hb3 s6 B2 n1;go_wp2_with fail
 clear c2;have HL:=hdz (show (l++40::nW x1 x2).length≤l.length+44 by have:=HF.out.2.2.2.2.1;simp only [List.length_append,List.length_cons];omega);have HZ:=hdz (show (l++40::nW x1 x2)++(dI bs++(ks.aM++[41]))=l++ai.aM ⟨(x1,x2),bs,ks⟩ by simp [ai.aM]);generalize l++40::nW x1 x2=l3 at *;go_loopg [4] bs.length (fun k c wr => ∃(pre rest:List (Int×Int)) (q:Option Addr),c=.pointer q∧bs=pre++rest∧k=rest.length∧tu w0 rest q∧mD base g (l3++dI pre) wr∧Below base w wr)
 case atStart=>exact ⟨[],bs,bp,rfl,rfl,rfl,H.out.2.1,by simpa [dI] using B3.out.1,B3.out.2⟩
 case round =>
  clear B3;obtain ⟨pre,rest,q,rfl,hx,hk,hr,hB,hbe⟩:=hrel
  cases rest with
  | nil =>
   obtain rfl:=hr;rw [List.append_nil]at hx;have B4:=hdz (show mD base g (l3++dI bs) wr∧Below base w wr from ⟨by rw [hx];exact hB,hbe⟩);clear hx hB hbe hk;have s6:=(HD.out _ B4.out.2).1;have c4:=s6.c4;clear s6;go_wp2_with fail
   clear c4;have HL2:=hdz (show (l3++dI bs).length≤l.length+44+46*bs.length by have:=HL.out;have:=H.out.2.2.2.2.2.2.2;simp only [List.length_append];omega);have HZ2:=hdz (show (l3++dI bs)++(ks.aM++[41])=l++ai.aM ⟨(x1,x2),bs,ks⟩ by rw [←HZ.out];simp);generalize l3++dI bs=l4 at *;go_loopg [5] ks.len (fun k c wr => ∃(pre:List UInt8) (rest:ay) (q:Option Addr),c=.pointer q∧ks.aM=pre++rest.aM∧k=rest.len∧rest.size≤ks.size∧fits rest.all∧pre.length+46*rest.size≤46*ks.size∧uf w0 rest q∧mD base g (l4++pre) wr∧Below base w wr)
   case atStart=>exact ⟨[],ks,kp,rfl,rfl,rfl,Nat.le_refl _,HF.out.2.2.2.1,by simp,H.out.2.2.1,by simpa using B4.out.1,B4.out.2⟩
   case round =>
    clear B4;obtain ⟨pre,rest,q,rfl,hx,hk,hsz,hfr,hlr,hr,hB,hbe⟩:=hrel
    cases rest with
    | nil =>
     obtain rfl:=hr;simp only [ay.aM,List.append_nil]at hx;have B5:=hdz (show mD base g (l4++ks.aM) wr∧Below base w wr from ⟨by rw [hx];exact hB,hbe⟩);clear hx hB hbe hk hsz hfr hlr;go_wp2_with fail
     ((with_reducible refine (lS base g (l4++ks.aM) [41] _ _ rfl B5.out.1 (by have:=H.out.2.2.2.2.2.2.1;have:=HL2.out;have:=HF.out.2.2.2.2.2;simp only [List.length_append,List.length_cons,List.length_nil];omega) (HD.out _ B5.out.2).2.2.1).mono ?_);rintro e w5 ⟨v5,rfl,hB5,hb5⟩);replace hb5:=hb5.below;have B6:=hdz (show mD base g (l++ai.aM ⟨(x1,x2),bs,ks⟩) w5∧Below base w w5 from ⟨by rw [←HZ2.out,←List.append_assoc];exact hB5,B5.out.2.trans hb5⟩);clear hB5 hb5 B5;go_wp2_with fail
     first|go_end0|refine bodyPost_ret (results_none rfl _ _ _) rfl ?_
     exact ⟨rfl,B6.out.1,B6.out.2⟩
    | cons y cs cks rest =>
     obtain ⟨c,bk,q',bp',kp',rfl,hc,hbk,h1,h2,h3⟩:=hr
     have hlen:1+cs.length+cks.size<n∧rest.size≤ks.size∧pre.length+46*(1+cs.length+cks.size)+46*rest.size≤46*ks.size:=by
      have g2:=H.out.2.2.2.2.2.1;simp only [ay.size]at hsz hlr;omega
     obtain ⟨hfk,hfr2⟩:=hfr.append
     have hkl:(ai.aM ⟨y,cs,cks⟩).length+1≤46*(1+cs.length+cks.size):=by
      have hw:=ay.cB (.cons y cs cks .nil) (by simpa [ay.all] using hfk);simp only [ay.aM,ay.size,List.append_nil,List.length_cons]at hw;simp only [ai.aM,List.length_cons];omega
     have A:=hdz (af hx (af hbe (af hc (af h3 (af hk (af hlen (af hfr2 hkl)))))));have HC:=hdz (fun l W hW hbw hB hl=>HI.out y cs cks hlen.1 w0 HE.out bk ⟨bp',kp',hbk,h1,h2⟩ hfk base hb0 g l W hW hbw hB hl);have B5:=hdz hB;clear hx hk hsz hfr hlr hbe hc hbk h1 h2 h3 hlen hfk hfr2 hkl hB;go_wp2_with fail
     ((with_reducible refine (lS base g (l4++pre) [32] _ _ rfl B5.out (by have:=H.out.2.2.2.2.2.2.1;have:=HL2.out;have:=A.out.2.2.2.2.2.1.2.2;simp only [List.length_append,List.length_cons,List.length_nil];omega) (HD.out _ A.out.2.1).2.2.1).mono ?_);rintro e w5 ⟨v5,rfl,hB5,hb5⟩);replace hb5:=hb5.below;have hbe5:Below base w w5:=A.out.2.1.trans hb5;have hc5:=((HD.out _ hbe5).2.2.2.block c (lt_of_heap A.out.2.2.1)).trans A.out.2.2.1;have c0:w5.cell? ⟨c,0,none⟩=some (.pointer (some ⟨bk,0,none⟩)):=by simp [World.cell?,hc5]
     have B6:=hdz (af hB5 hbe5);clear hB5 hb5 hbe5 hc5 B5;go_wp2_with fail
     ((with_reducible refine (HC.out ((l4++pre)++[32]) _ (HD.out _ B6.out.2).2.2.2 (HD.out _ B6.out.2).2.2.1 B6.out.1 (by have:=H.out.2.2.2.2.2.2.1;have:=HL2.out;have:=A.out.2.2.2.2.2.1.2.2;simp only [List.length_append,List.length_cons,List.length_nil];omega)).mono ?_);rintro e w6 ⟨rfl,hB6,hb6⟩);have hbe6:Below base w w6:=B6.out.2.trans hb6;have hc6:=((HD.out _ hbe6).2.2.2.block c (lt_of_heap A.out.2.2.1)).trans A.out.2.2.1;have c1:w6.cell? ⟨c,1,none⟩=some (.pointer q'):=by simp [World.cell?,hc6]
     have B7:=hdz (af hB6 hbe6);clear hB6 hb6 hbe6 hc6 B6 c0 HC;go_wp2_with fail
     obtain ⟨hx, -, -,h3,hk,hlen,hfr2,hkl⟩:=A.out;go_roundg rest.len
     case measure=>rw [hk];simp [ay.len]
     case rel=>exact ⟨pre++32::ai.aM ⟨y,cs,cks⟩,rest,q',rfl,by rw [hx];simp [ay.aM,ai.aM],rfl,hlen.2.1,hfr2,by simp only [List.length_append,List.length_cons];omega,h3,by have:=B7.out.1;simpa using this,B7.out.2⟩
  | cons x rest =>
   obtain ⟨bb,q',rfl,hh,hr'⟩:=hr;have hh1:=((HD.out _ hbe).2.2.2.block bb (lt_of_heap hh)).trans hh;have c0:wr.cell? ⟨bb,0,none⟩=some (.int .i64 x.1):=by simp [World.cell?,hh1]
   have c1:wr.cell? ⟨bb,1,none⟩=some (.int .i64 x.2):=by simp [World.cell?,hh1]
   have hfx:iw x.1∧iw x.2:=HF.out.2.2.1 x (by rw [hx];simp);have hfp:(dI pre).length≤46*pre.length:=fq pre (fun e he=>HF.out.2.2.1 e (by rw [hx];simp [he]));have hpl:pre.length+1≤bs.length:=by have:=congrArg List.length hx;simp only [List.length_append,List.length_cons]at this;omega
   have hxl:=dW x.1 x.2 hfx.1 hfx.2;have n2:¬9223372036854775807<2+(nW x.1 x.2).length:=by omega
   have A:=hdz (af hx (af hk (af hr' (af hB (af hbe (af hh (af hfx (af hfp (af hpl hxl)))))))));clear hx hk hr' hB hbe hh hh1 hfx hfp hpl hxl;go_wp2_with fail
   ((with_reducible refine (fV x _).mono ?_);rintro e w4 ⟨rfl,hb4⟩);have hb4':Below base w w4:=A.out.2.2.2.2.1.trans (hb4.mono (HD.out _ A.out.2.2.2.2.1).2.2.1);go_wp2_with fail
   ((with_reducible refine (qN x A.out.2.2.2.2.2.2.1 _ (HD.out _ hb4').2.1).mono ?_);rintro e w5 ⟨rfl,hb5⟩);have hb5':Below base w w5:=hb4'.trans (hb5.mono (HD.out _ hb4').2.2.1);have B5:=hdz (af ((A.out.2.2.2.1.stay hb4).stay hb5) hb5');clear hb4 hb4' hb5 hb5' c0 c1;go_wp2_with fail
   ((with_reducible refine (lS base g (l3++dI pre) (32::43::nW x.1 x.2) _ _ (Eo _ _ _) B5.out.1 (by have:=H.out.2.2.2.2.2.2.1;have:=HL.out;have:=A.out.2.2.2.2.2.2.2;simp only [List.length_append,List.length_cons];omega) (HD.out _ B5.out.2).2.2.1).mono ?_);rintro e w6 ⟨v6,rfl,hB6,hb6⟩);replace hb6:=hb6.below;have hbe6:Below base w w6:=B5.out.2.trans hb6;have hh6:=((HD.out _ hbe6).2.2.2.block bb (lt_of_heap A.out.2.2.2.2.2.1)).trans A.out.2.2.2.2.2.1;have c2:w6.cell? ⟨bb,2,none⟩=some (.pointer q'):=by simp [World.cell?,hh6]
   have B6:=hdz (af hB6 hbe6);clear hB6 hb6 hbe6 hh6 B5 n2;go_wp2_with fail
   obtain ⟨hx,hk,hr', -⟩:=A.out;go_roundg rest.length
   case measure=>rw [hk];simp
   case rel=>exact ⟨pre++[x],rest,q',rfl,by rw [hx];simp,rfl,hr',by have:=B6.out.1;simpa [dI] using this,B6.out.2⟩
end Go.Proofs.YtmeodbjlmjpnbaaGreat
namespace Go.Proofs.YtmeodbjlmjpnbaaGreat
open Go.Sort Go.RowKit
theorem E8 [Tb](n:Nat):∀(x:Int×Int) (bs:List (Int×Int)) (ks:ay),1+bs.length+ks.size=n → ∀(w0:World),Env w0 → ∀(b:Nat),oz w0 b ⟨x,bs,ks⟩→fits (x::(bs++ks.all)) → ∀(base:Nat),w0.heap.size≤base → ∀(g:Nat) (l:List UInt8) (w:World),Below w0.heap.size w0 w→base≤w.heap.size→mD base g l w →
   l.length+46*(1+bs.length+ks.size)+10≤140737488355328→Calls Tryz.prog 237 #[.pointer (some ⟨b,0,none⟩),.pointer (some ⟨g,0,none⟩)] w fun e w'=>e=.returned (.tuple #[])∧mD base g (l++ai.aM ⟨x,bs,ks⟩) w'∧Below base w w':=by
 induction n using Nat.strongRecOn with
 | ind n ih =>
  intro x bs ks hn w0 he b ht hf base hb0 g l w hW hbw hB hl;exact Da n (fun x' bs' ks' hlt=>ih _ hlt x' bs' ks' rfl) x.1 x.2 bs ks hn w0 he b ht hf base hb0 g l w hW hbw hB hl
def Ae [Tb]:Option ai→List UInt8
 | none=>[46]
 | some t=>t.aM
theorem Db (w:World)(base g:Nat)(l:List UInt8)(hB:mD base g l w)(hbw:base≤w.heap.size)(hl:l.length+1≤140737488355328) :
  Calls Tryz.prog 237 #[.pointer none,.pointer (some ⟨g,0,none⟩)] w fun e w'=>e=.returned (.tuple #[])∧mD base g (l++[46]) w'∧Below base w w':=by
 have H:=hdz (lS base g l [46] _ w rfl hB hl hbw);clear hB hbw hl;go_enter Tryz.func237,Tryz.ntmps237
 go_wp2_with fail
 ((with_reducible refine H.out.mono ?_);rintro e w1 ⟨v,rfl,hB,hb⟩);have B:=hdz (af hB hb);clear hB hb H;go_wp2_with fail
 first|go_end0|refine bodyPost_ret (results_none rfl _ _ _) rfl ?_
 exact ⟨rfl,B.out.1,B.out.2.below⟩
theorem Be [Tb](p:Option Addr)(t:Option ai)(w0:World)(he:Env w0)(h:gQ w0 p t)(hf:fits (Dl t))(h1:bF t<1073741824)(base:Nat)(hb0:w0.heap.size≤base)(g:Nat)(w:World)(hW:Below w0.heap.size w0 w)(hbw:base≤w.heap.size)(hB:mD base g [] w) :
  Calls Tryz.prog 237 #[.pointer p,.pointer (some ⟨g,0,none⟩)] w fun e w'=>e=.returned (.tuple #[])∧mD base g (Ae t) w'∧Below base w w':=by
 cases t with
 | none=>obtain rfl:=h;exact Db w base g [] hB hbw (by simp)
 | some t =>
  obtain ⟨b,rfl,ht⟩:=h;obtain ⟨x,bs,ks⟩:=t;exact E8 _ x bs ks rfl w0 he b ht hf base hb0 g [] w hW hbw hB (by simp only [bF,ai.size]at h1;simp only [List.length_nil];omega)
theorem gI [Tb](p:Option Addr)(t:Option ai)(w:World)(he:Env w)(h:gQ w p t)(hf:fits (Dl t))(h1:bF t<1073741824) :
  Calls Tryz.prog 228 #[.pointer p] w fun e w'=>e=.returned (.string ⟨(Ae t).toArray⟩)∧Below w.heap.size w w':=by
 have hb0:Below w.heap.size w (w.alloc (.cells #[.pointer none,.slice none 0 0] 355)):=bG _;have H:=hdz (Be p t w he h hf h1 w.heap.size (Nat.le_refl _) w.heap.size _ hb0 hb0.size (qw w));have HB:=hdz hb0;clear he h hf h1 hb0;go_enter Tryz.func228,Tryz.ntmps228
 go_wp2_with fail
 ((with_reducible refine H.out.mono ?_);rintro e w1 ⟨rfl,hB,hb⟩);have B:=hdz (af hB (HB.out.trans hb));clear hB hb H;go_wp2_with fail
 ((with_reducible refine (sQ w.heap.size w.heap.size (Ae t) _ B.out.1 B.out.2.size).mono ?_);rintro e w2 ⟨rfl,hb2⟩);have B2:=hdz (B.out.2.trans hb2);clear hb2 B;go_wp2_with fail
 go_ret
 exact ⟨rfl,B2.out⟩
end Go.Proofs.YtmeodbjlmjpnbaaGreat
namespace Go.Proofs.YtmeodbjlmjpnbaaGreat.Bi
open Go.Sort Go.RowKit
def Lh.aM [Tb](h:Lh):List UInt8:=nI h.ts
end Go.Proofs.YtmeodbjlmjpnbaaGreat.Bi
namespace Go.Proofs.YtmeodbjlmjpnbaaGreat.Bi.Hp
open Go.Sort Go.RowKit
theorem gU [Tb](t:ai)(h:fits t.all):t.aM.length≤46*t.size:=by
 have h0:=h.cons;have h1:=dW t.x.1 t.x.2 h0.1.1 h0.1.2;have h2:=fq t.bs h0.2.append.1;have h3:=t.ks.cB h0.2.append.2;simp only [ai.aM,ai.size,List.length_append,List.length_cons,List.length_nil]at *;omega
theorem jN [Tb]:∀l:List ai,fits (aR l)→(kD l).length≤47*ah l
 | [],_=>by simp [kD]
 | t::r,h=>by
  have h1:=gU t h.append.1;have h2:=jN r h.append.2;have h3:1≤t.size:=by simp only [ai.size];omega
  simp only [kD,ah,List.length_append,List.length_cons];omega
theorem pG [Tb]:∀(r:List ai) (t:ai),[32].intercalate ((t::r).map ai.aM)=t.aM++kD r
 | [],t=>by simp [List.intercalate,kD]
 | u::r,t=>by
  have ih:=pG r u;simp only [List.map_cons,List.intercalate]at ih ⊢;rw [List.intersperse_cons_cons];simp only [List.flatten_cons]at ih ⊢;rw [ih];simp [kD]
def Bf [Tb](t:ai):Value := .string ⟨t.aM.toArray⟩
abbrev x9 [Tb](w:World)(base:Nat)(v:Value)(ts:List ai):Prop:=Mine Bf 9 w base v ts
theorem zM:(Tryz.prog.info? 9).map (fun i=>(i.zero,i.size,i.bytes))=some (some (.string ⟨#[]⟩),1,16):=by kernel_rfl
theorem sF [Tb](w:World)(base:Nat)(v:Value)(ts:List ai)(t:ai)(hown:x9 w base v ts)(hlen:ts.length<1073741824)(hb:base≤w.heap.size) :
  ∃v' w',(Builtin.append_ #[372, 372] 372 #[v,.slice (some ⟨w.heap.size,0,none⟩) 1 1]).run Tryz.prog (w.alloc (.cells #[.string ⟨t.aM.toArray⟩] 9))=.ok v' w'∧x9 w' base v' (ts++[t])∧Below base w w':=by
 obtain ⟨i0,hi,hz0,hz1,hz2⟩:=info_parts zM;have hown':(w.alloc (.cells #[.string ⟨t.aM.toArray⟩] 9)).ownsRow base 9 1 v ts.length (ts.map Bf):=World.ownsRow.alloc hown _
 obtain ⟨g,c,w',h1,h2,h3, -, -⟩:=run_append_lies (P:=Tryz.prog) (w:=w.alloc (.cells #[.string ⟨t.aM.toArray⟩] 9)) 372 372 base 9 i0 _ 1 16 Tryz.underlying372 hi hz0 hz1 hz2 rfl (by omega)
  _ ts.length (ts.map Bf) hown' ⟨w.heap.size,0,none⟩ 1 1 [.string ⟨t.aM.toArray⟩] rfl
  (fun j u hu=>by
   rw [jY];have e1:(w.alloc (.cells #[.string ⟨t.aM.toArray⟩] 9)).heap[w.heap.size]?=some (.cells #[.string ⟨t.aM.toArray⟩] 9 (0,0)):=aJ rfl;unfold World.cell?;rw [e1];simpa using hu) (by intro u hu;simp at hu;subst hu;rfl) (by omega) (by unfold maxLen;omega) (by omega) (by simp;omega) _ rfl
 refine ⟨_,w',h1,?_,below_grown ((Below.refl _ _).alloc hb _) h3 (by simp;omega) (fun g hg=>hown.block g hg)⟩;unfold x9 Mine;rw [List.length_append,List.map_append];exact h2
theorem yY {l:List ai}(h:fits (aR l)){t:ai}(ht:t∈l):fits t.all:=by
 induction l with
 | nil=>cases ht
 | cons u r ih =>
  rcases List.mem_cons.1 ht with rfl|hr
  ·exact h.append.1
  ·exact ih h.append.2 hr
theorem size_at {l:List ai}{t:ai}(ht:t∈l):t.size≤ah l:=by
 induction l with
 | nil=>cases ht
 | cons u r ih =>
  simp only [ah];rcases List.mem_cons.1 ht with rfl|hr
  ·omega
  ·have:=ih hr;omega
theorem nL [Tb](v:Value)(ts:List ai)(base:Nat)(w:World)(hown:x9 w base v ts)(hne:ts≠[])(hf:fits (aR ts))(hs:ah ts<268435456) :
  Calls Tryz.prog 229 #[v,.string ⟨#[32]⟩] w fun e w'=>e=.returned (.string ⟨(nI ts).toArray⟩)∧Below w.heap.size w w':=by
 obtain ⟨A,c,rfl,hr,hc, -, -⟩:=hown.form;have hpos:0<ts.length:=List.length_pos_iff.2 hne;obtain ⟨b,o,rfl,hcell⟩:=hr hpos
 have hbs:nI ts=[32].intercalate (ts.map ai.aM):=by
  cases ts with
  | nil=>exact absurd rfl hne
  | cons t r=>rw [pG];rfl
 have hmap:(ts.map (fun t=>(⟨t.aM.toArray⟩:ByteArray))).map (·.data.toList)=ts.map ai.aM:=by
  rw [List.map_map];rfl
 have hlen:(nI ts).length≤47*ah ts:=by
  cases ts with
  | nil=>exact absurd rfl hne
  | cons t r =>
   have h1:=gU t hf.append.1;have h2:=jN r hf.append.2;simp only [nI,ah,List.length_append];omega
 have hl:=bW ts
 have h:=Tryz.strings_Join b o c (ts.map (fun t=>(⟨t.aM.toArray⟩:ByteArray))) ⟨#[32]⟩ w
  (fun j x hx=>by
   rw [List.getElem?_map]at hx
   cases ht:ts[j]? with
   | none=>rw [ht]at hx;cases hx
   | some t =>
    rw [ht]at hx;obtain ⟨hj,rfl⟩:=List.getElem?_eq_some_iff.1 ht
    cases hx
    exact hcell j hj)
  (block_lt_of_cell (hcell 0 hpos)) (by rw [List.length_map];omega) (by rw [List.length_map];exact hc)
  (by rw [hmap];show ([32].intercalate (ts.map ai.aM)).length≤_;rw [←hbs];omega)
 rw [hmap,List.length_map]at h;refine h.mono fun e w' ⟨he,hb⟩=>⟨?_,hb⟩;rw [he,hbs];rfl
theorem uF [Tb](ts:List ai)(ps:List (Option Addr))(A:Option Addr)(n c:Nat)(w:World)(he:Env w)(ht:aS w ts ps)(hr:Row1 Lt.one w A ps)(hn:n=ts.length)(hf:fits (aR ts))(hs:ah ts<268435456) :
  Calls Tryz.prog 222 #[.slice A n c] w fun e w'=>e=.returned (.string ⟨(nI ts).toArray⟩)∧Below w.heap.size w w':=by
 by_cases h0:n=0
 ·obtain rfl:ts=[]:=List.eq_nil_of_length_eq_zero (by omega);have hz:n=0:=h0;subst hz;clear he ht hr hf hs h0 hn;go_enter Tryz.func222,Tryz.ntmps222
  go_wp2_with fail
  go_ret
  exact ⟨rfl,Below.refl _ _⟩
 have hpl:=ht.length;have hl:=bW ts;obtain ⟨b,o,rfl⟩:=jW hr (by omega);have H:=hdz (af he (af ht (af hr (af hn (af hf (af hs (af hpl hl)))))));have q0:((n:Int) == 0)=false:=by simp;omega
 have q1:¬n=0:=h0;clear he ht hr hn hf hs hpl hl h0;go_enter Tryz.func222,Tryz.ntmps222
 go_wp2_with fail
 go_loopg [3,11] n (fun k v iv wr => ∃i:Nat,iv=.int .i64 (i:Int)∧i+k=n∧x9 wr w.heap.size v (ts.take i)∧Below w.heap.size w wr)
 case atStart=>exact ⟨0,rfl,by omega,Mine.none _ _ _,Below.refl _ _⟩
 case round =>
  obtain ⟨i,rfl,hi,hown,hbe⟩:=hrel;by_cases hlt:i<n
  ·have hil:i<ts.length:=by have:=H.out.2.2.2.1;omega
   obtain ⟨a,ha,hta⟩:=H.out.2.1.at (List.getElem?_eq_getElem hil);have hmem:ts[i]∈ts:=List.getElem_mem hil;have htk:ts.take (i+1)=ts.take i++[ts[i]]:=List.take_succ_eq_append_getElem hil;have hx:=(hbe.cell (block_lt_of_cell (jP H.out.2.2.1 ha))).trans (jP H.out.2.2.1 ha);have g1:decide ((i:Int)<(n:Int))=true:=by simp;omega
   have g2:(i:Int)<(n:Int):=by omega
   have g3:(0:Int)≤(i:Int):=by omega
   have hft:=yY H.out.2.2.2.2.1 hmem;have hsz:=size_at hmem;generalize ts[i]=t at *;have X:=hdz (af hown (af hbe (af hta (af htk (af (show fits (Dl (some t)) from hft) (af hsz hi))))));clear hown hbe hta htk hft hsz hi hil ha hmem;go_wp2_with fail
   ((with_reducible refine (Go.Proofs.YtmeodbjlmjpnbaaGreat.gI a (some t) _ (H.out.1.below X.out.2.1) (X.out.2.2.1.stay X.out.2.1) X.out.2.2.2.2.1 (by have:=X.out;have:=H.out;simp only [bF];omega)).mono ?_);rintro e w2 ⟨rfl,hb2⟩);rw [show Ae (some t)=t.aM from rfl];have hlen:(ts.take i).length<1073741824:=by rw [List.length_take];have:=H.out;omega
   have hb3:=X.out.2.1.trans (hb2.mono X.out.2.1.size);obtain ⟨v3,w3,hrun,hown3,hb4⟩:=sF w2 w.heap.size _ (ts.take i) t (X.out.1.stay hb2) hlen hb3.size;have HR:=hdz hrun;have Y:=hdz (af hown3 (hb3.trans hb4));clear hb2 hlen hb3 hrun hown3 hb4;go_wp2_with (at_builtin;refine wpList_append_run rfl _ _ _ rfl _ _ _ _ rfl rfl HR.out ?_)
   go_roundg (n - 1 - i)
   case measure=>have:=X.out.2.2.2.2.2.2;omega
   case rel=>exact ⟨i+1,by first|rfl|(congr 1;have:=H.out;first|(unfold wrap64;omega)|(rw [IntKind.wrap_i64];omega)),by have:=X.out.2.2.2.2.2.2;omega,X.out.2.2.2.1▸Y.out.1,Y.out.2⟩
  ·have hin:i=n:=by omega
   have g1:decide ((i:Int)<(n:Int))=false:=by simp;omega
   have g2:¬(i:Int)<(n:Int):=by omega
   have htk:ts.take i=ts:=by rw [hin,H.out.2.2.2.1,List.take_length]
   rw [htk]at hown;have hne:ts≠[]:=by intro e;have:=H.out.2.2.2.1;rw [e]at this;simp at this;omega
   have X:=hdz (af hown (af hbe hne));clear hne;clear hown hbe htk hi;go_wp2_with fail
   ((with_reducible refine (nL _ ts w.heap.size _ X.out.1 X.out.2.2 H.out.2.2.2.2.1 H.out.2.2.2.2.2.1).mono ?_);rintro e w2 ⟨rfl,hb2⟩);have Y:=hdz (X.out.2.1.trans (hb2.mono X.out.2.1.size));clear hb2;go_wp2_with fail
   go_ret
   exact ⟨rfl,Y.out⟩
theorem gI [Tb](t:Lh)(p:HP)(w:World)(he:Env w)(h:aA w t p)(hf:fits t.all)(hs:t.size<268435456):Calls Tryz.prog 208 #[hp p] w fun e w'=>e=.returned (.string ⟨t.aM.toArray⟩)∧Below w.heap.size w w':=by
 obtain ⟨ts⟩:=t;obtain ⟨ps,n,hn,hnl,hl,ht⟩:=h.list;obtain ⟨q,pn⟩:=p;change pn=(n:Int) at hn;subst hn;have hb1:Below w.heap.size w (w.alloc (.cells #[.pointer q,.int .i64 (n:Int)] 108)):=(Below.refl _ w).alloc (Nat.le_refl _) _;have H:=hdz (af (hl.stay hb1) (af (ht.kp (bO.below hb1)) (af hb1 (af he (af (show n=ts.length from hnl) (af (show fits (aR ts) from hf) (show ah ts<268435456 from hs)))))));clear h hl ht hb1 he hf hs hnl;go_enter Tryz.func208,Tryz.ntmps208
 go_wp2_with fail
 ((with_reducible refine (Lt.qK H.out.1).mono ?_);rintro e w2 ⟨A,cc,rfl, -,hr,hnc,hb2⟩);have X:=hdz (af hr (af (H.out.2.1.kp (bO.below hb2)) (H.out.2.2.1.trans (hb2.mono H.out.2.2.1.size))));clear hr hnc hb2;go_wp2_with fail
 ((with_reducible refine (uF ts ps A n cc _ (H.out.2.2.2.1.below X.out.2.2) X.out.2.1 X.out.1 H.out.2.2.2.2.1 H.out.2.2.2.2.2.1 H.out.2.2.2.2.2.2).mono ?_);rintro e w3 ⟨rfl,hb3⟩);have Y:=hdz (X.out.2.2.trans (hb3.mono X.out.2.2.size));clear hb3;go_wp2_with fail
 go_ret
 exact ⟨rfl,Y.out⟩
end Go.Proofs.YtmeodbjlmjpnbaaGreat.Bi.Hp
namespace Go.Proofs.YtmeodbjlmjpnbaaGreat.Pd
open Go.Sort Go.RowKit
def Kd.aM [Tb]:Kd→List UInt8
 | .nil=>[]
 | .cons x ks r=>(32::40::(nW x.1 x.2++(ks.aM++[41])))++r.aM
def Lh.aM [Tb]:Lh→List UInt8
 | .nil=>[46]
 | .node x ks=>40::(nW x.1 x.2++(ks.aM++[41]))
theorem Kd.cB [Tb]:∀w:Kd,fits w.all→w.aM.length≤46*w.size
 | .nil,_=>by simp [Kd.aM]
 | .cons x ks r,h=>by
  have h0:=(h.append).1.cons;have h1:=dW x.1 x.2 h0.1.1 h0.1.2;have h3:=ks.cB h0.2;have h4:=r.cB h.append.2;simp only [Kd.aM,Kd.size,List.length_append,List.length_cons,List.length_nil]at *;omega
theorem Lh.cB [Tb]:∀h:Lh,fits h.all→h.aM.length≤46*h.size+1
 | .nil,_=>by simp [Lh.aM]
 | .node x ks,h=>by
  have h0:=h.cons;have h1:=dW x.1 x.2 h0.1.1 h0.1.2;have h3:=ks.cB h0.2;simp only [Lh.aM,Lh.size,List.length_append,List.length_cons,List.length_nil]at *;omega
end Go.Proofs.YtmeodbjlmjpnbaaGreat.Pd
namespace Go.Proofs.YtmeodbjlmjpnbaaGreat.Pd
open Go.Sort Go.RowKit
def dm (ps:List (Option Addr×Nat)):List Value:=ps.flatMap fun p=>[.pointer p.1,.int .i64 (p.2:Int)]
theorem bK (ps:List (Option Addr×Nat)):(dm ps).length=ps.length*2:=by
 induction ps with
 | nil=>rfl
 | cons x r ih=>simp only [dm,List.flatMap_cons,List.length_append,List.length_cons,List.length_nil]at *;omega
theorem dS (xs ys:List (Option Addr×Nat)):dm (xs++ys)=dm xs++dm ys:=by simp [dm]
theorem sP (ps:List (Option Addr×Nat)):∀v∈dm ps,v.oneCell'=true:=by
 intro v hv;simp only [dm,List.mem_flatMap]at hv;obtain ⟨x,_,hx⟩:=hv;simp at hx;rcases hx with rfl|rfl<;>rfl
theorem Ee:(Tryz.prog.info? 242).map (fun i=>(i.zero,i.size,i.bytes))=some (some (.agg #[.pointer none,.int .i64 0]),2,16):=by kernel_rfl
def dZ (w:World)(base:Nat)(v:Value)(ps:List (Option Addr×Nat)):Prop:=w.ownsRow base 242 2 v ps.length (dm ps)
theorem dZ.below {w w':World}{base:Nat}{v:Value}{ps:List (Option Addr×Nat)}(h:dZ w base v ps)(hb:Below w.heap.size w w'):dZ w' base v ps:=by
 refine World.ownsRow.kept h (row:=none) ⟨hb.os,hb.tape,hb.output,hb.size,fun k hk _=>hb.block k hk⟩ ?_
 cases v.ownBlock<;>simp
theorem dZ.kind {w:World}{base:Nat}{v:Value}{ps:List (Option Addr×Nat)}(h:dZ w base v ps):∀k,v.ownBlock=some k→base≤k∧k<w.heap.size ∧ ∃cs,w.heap[k]?=some (.cells cs 242 (0,0)):=by
 intro k hk;rcases h.2 with ⟨rfl, -⟩|⟨g,cap,cur,rfl,hb,hg, -⟩
 ·cases hk
 ·cases hk
  exact ⟨hb,lt_of_heap hg,cur,hg⟩
theorem dZ.wrote {w w':World}{base g:Nat}{l:List UInt8}{v:Value}{ps:List (Option Addr×Nat)}(h:dZ w base v ps)(hB:mD base g l w)(hw:Wrote base g w w'):dZ w' base v ps:=by
 refine ⟨h.1,?_⟩;rcases h.2 with hn|⟨k,cap,cur,rfl,hb,hg,rest⟩
 ·exact .inl hn
 ·refine .inr ⟨k,cap,cur,rfl,hb,hw.heap hg (fun e=>?_) (by decide),rest⟩;obtain ⟨-,cs,h1⟩:=hB.block;rw [←e,hg]at h1
  cases h1
theorem dZ.last {w:World}{base:Nat}{v:Value}{ps:List (Option Addr×Nat)}{x:Option Addr×Nat}(h:dZ w base v (ps++[x])):∃g cap,v=.slice (some ⟨g,0,none⟩) (ps.length+1) cap∧ps.length+1≤cap∧cap≤9223372036854775807 ∧
  w.cell? ⟨g,ps.length*2,none⟩=some (.pointer x.1)∧w.cell? ⟨g,ps.length*2+1,none⟩=some (.int .i64 (x.2:Int))∧dZ w base (.slice (some ⟨g,0,none⟩) ps.length cap) ps:=by
 have h0:=h;have hl:(ps++[x]).length=ps.length+1:=by simp
 rcases h.2 with ⟨-,hn⟩|⟨g,cap,cur,rfl,hb,hg,hc,hm,hs,ht⟩
 ·rw [hl]at hn;omega
 ·rw [hl]at hc ht ⊢;unfold dZ at h0;rw [hl]at h0
  have hcell:∀j u,(dm (ps++[x]))[j]?=some u→w.cell? ⟨g,j,none⟩=some u:=fun j u hu=>by
   have hj:j<(ps.length+1)*2:=by
    have:=(List.getElem?_eq_some_iff.1 hu).1;rw [bK,hl]at this;exact this
   rw [World.ownsRow.cellAt h0 j hj];exact hu
  have e0:(dm (ps++[x]))[ps.length*2]?=some (.pointer x.1):=by
   rw [dS,List.getElem?_append_right (by rw [bK];omega),bK,Nat.sub_self];rfl
  have e1:(dm (ps++[x]))[ps.length*2+1]?=some (.int .i64 (x.2:Int)):=by
   rw [dS,List.getElem?_append_right (by rw [bK];omega),bK,show ps.length*2+1 - ps.length*2=1 by omega];rfl
  refine ⟨g,cap,rfl,hc,by unfold maxLen at hm;omega,hcell _ _ e0,hcell _ _ e1,bK ps,.inr ⟨g,cap,cur,rfl,hb,hg,by omega,hm,hs,?_⟩⟩;rw [show cur.toList.take (ps.length*2)=(cur.toList.take ((ps.length+1)*2)).take (ps.length*2) by rw [List.take_take];congr 1;omega,ht,dS,List.take_append_of_le_length (by rw [bK];omega),List.take_of_length_le (by rw [bK];omega)]
theorem dZ.one (w:World)(p:Option Addr)(e:Nat):dZ (w.alloc (.cells #[.pointer p,.int .i64 (e:Int)] 242)) w.heap.size (.slice (some ⟨w.heap.size,0,none⟩) 1 1) [(p,e)] :=
 ⟨rfl,.inr ⟨w.heap.size,1,#[.pointer p,.int .i64 (e:Int)],rfl,Nat.le_refl _,heap_alloc_new w _,Nat.le_refl _,by unfold maxLen;omega,rfl,rfl⟩⟩
theorem dZ.empty {w:World}{base:Nat}{v:Value}{ps:List (Option Addr×Nat)}(h:dZ w base v ps):∃A c,v=.slice A ps.length c:=by
 rcases h.2 with ⟨rfl,hn⟩|⟨g,cap,cur,rfl, -⟩
 ·exact ⟨none,0,by rw [hn]⟩
 ·exact ⟨_,cap,rfl⟩
theorem dZ.lower {w:World}{base base':Nat}{v:Value}{ps:List (Option Addr×Nat)}(h:dZ w base v ps)(hb:base'≤base):dZ w base' v ps :=
 ⟨h.1,h.2.imp id (fun ⟨g,cap,cur,a,b,r⟩=>⟨g,cap,cur,a,Nat.le_trans hb b,r⟩)⟩
theorem yX (w:World)(base:Nat)(v:Value)(ps:List (Option Addr×Nat))(q:Option Addr)(e:Nat)(hown:dZ w base v ps)(hlen:ps.length<1073741824)(hb:base≤w.heap.size) :
  ∃v' w',(Builtin.append_ #[368, 368] 368 #[v,.slice (some ⟨w.heap.size,0,none⟩) 1 1]).run Tryz.prog (w.alloc (.cells #[.pointer q,.int .i64 (e:Int)] 242))=.ok v' w' ∧
   dZ w' base v' (ps++[(q,e)])∧(w.alloc (.cells #[.pointer q,.int .i64 (e:Int)] 242)).grownBy w' v.ownBlock:=by
 obtain ⟨i0,hi,hz0,hz1,hz2⟩:=info_parts Ee;have hown1:=hown.below ((Below.refl w.heap.size w).alloc (Nat.le_refl _) (.cells #[.pointer q,.int .i64 (e:Int)] 242))
 have hc:∀j u,(dm [(q,e)])[j]?=some u→(w.alloc (.cells #[.pointer q,.int .i64 (e:Int)] 242)).cell? ((⟨w.heap.size,0,none⟩:Addr).add j)=some u:=by
  intro j u hu;have ha:(⟨w.heap.size,0,none⟩:Addr).add j=⟨w.heap.size,j,none⟩:=by rw [add_plain,Nat.zero_add]
  rw [ha];have h1:=heap_alloc_new w (.cells #[.pointer q,.int .i64 (e:Int)] 242);have h2:dm [(q,e)]=[.pointer q,.int .i64 (e:Int)]:=rfl;rw [h2]at hu;simp only [World.cell?,h1];simpa using hu
 obtain ⟨v',w',h1,h2,h3,_⟩:=run_append_own_at (P:=Tryz.prog) (w.alloc (.cells #[.pointer q,.int .i64 (e:Int)] 242)) base 368 368 242 i0 _ 2 16 Tryz.underlying368 hi hz0 hz1 hz2 rfl (by omega) v ps.length (dm ps) hown1 ⟨w.heap.size,0,none⟩ 1 1 (dm [(q,e)]) rfl hc (sP _) (by unfold maxLen;omega) (by omega) (by simp only [World.size_alloc];omega);refine ⟨v',w',h1,?_,h3⟩;unfold dZ;rw [dS,List.length_append];exact h2
theorem FQ (l:List Value)(a b a' b':Value)(n:Nat)(hn:l.length=n):((l++[a,b]).set n a').set (n+1) b'=l++[a',b']:=by
 subst hn;induction l with
 | nil=>rfl
 | cons x l ih=>simp only [List.cons_append,List.length_cons,List.set_cons_succ,ih]
theorem dZ.turn {w:World}{base g n cap:Nat}{ps:List (Option Addr×Nat)}{x:Option Addr×Nat}(h:dZ w base (.slice (some ⟨g,0,none⟩) n cap) (ps++[x]))(q:Option Addr)(e k:Nat)(hk:k=ps.length) :
  dZ ((w.setCell ⟨g,k*2,none⟩ (.pointer q)).setCell ⟨g,k*2+1,none⟩ (.int .i64 (e:Int))) base (.slice (some ⟨g,0,none⟩) n cap) (ps++[(q,e)]):=by
 have hl:(ps++[x]).length=ps.length+1:=by simp
 have hl':(ps++[(q,e)]).length=ps.length+1:=by simp
 have e1:(dm ps).length=k*2:=by rw [bK,hk]
 have e2:dm (ps++[x])=dm ps++[.pointer x.1,.int .i64 (x.2:Int)]:=dS _ _;have e3:dm (ps++[(q,e)])=dm ps++[.pointer q,.int .i64 (e:Int)]:=dS _ _;have hz:=FQ (dm ps) (.pointer x.1) (.int .i64 (x.2:Int)) (.pointer q) (.int .i64 (e:Int)) (k*2) e1;rw [←e2,←e3]at hz;rcases h.2 with ⟨e', -⟩|⟨g',cap',cur,e',hb,hg,hc,hm,hs,ht⟩
 ·cases e'
 ·injection e' with e4 e5 e6
  injection e4 with e4
  injection e4 with e4
  subst e4;subst e6;refine ⟨bK _,.inr ⟨g,cap,(cur.setIfInBounds (k*2) (.pointer q)).setIfInBounds (k*2+1) (.int .i64 (e:Int)),by rw [e5,hl,hl'],hb,heap_put (j:=k*2+1) (heap_put (j:=k*2) hg _) _,by rw [hl'];rw [hl]at hc;exact hc,hm,by rw [Array.size_setIfInBounds,Array.size_setIfInBounds];exact hs,?_⟩⟩;rw [hl]at ht;rw [hl',Array.toList_setIfInBounds,Array.toList_setIfInBounds,List.take_set,List.take_set,ht];exact hz
theorem Eo (c d:UInt8)(t:List UInt8):(⟨#[c,d]⟩:ByteArray)++⟨t.toArray⟩=⟨(c::d::t).toArray⟩:=lC [c,d] t
def jZ [Tb]:List Kd→List UInt8
 | []=>[]
 | k::r=>k.aM++41::jZ r
def fB:List Kd→Nat
 | []=>0
 | k::r=>2*k.size+1+fB r
theorem Du [Tb](x:Int×Int)(ks r:Kd)(ts:List Kd):jZ (.cons x ks r::ts)=32::40::(nW x.1 x.2++jZ (ks::r::ts)):=by
 simp only [jZ,Kd.aM,List.append_assoc,List.cons_append,List.nil_append]
theorem Ay:∀ts:List Kd,ts.length≤fB ts
 | []=>Nat.le_refl _
 | k::r=>by simp only [fB,List.length_cons];have:=Ay r;omega
def gM (W:World):List Kd→List (Option Addr×Nat)→Prop
 | [],qs=>qs=[]
 | k::ts,qs => ∃q qs',qs=q::qs'∧iG W k q.1∧q.2=k.len∧fits k.all∧gM W ts qs'
section
variable {W W':World}
theorem gM.kp (h:Kp W W'):∀{ts:List Kd} {qs:List (Option Addr×Nat)},gM W ts qs→gM W' ts qs
 | [],_,hp=>hp
 | _::_,_,⟨q,qs',e,h1,h2,h3,h4⟩=>⟨q,qs',e,h1.kp h,h2,h3,gM.kp h h4⟩
theorem gM.length:∀{ts:List Kd} {qs:List (Option Addr×Nat)},gM W ts qs→qs.length=ts.length
 | [],_,h=>by rw [h];rfl
 | _::_,_,⟨_,_,e,_,_,_,h⟩=>by rw [e,List.length_cons,h.length,List.length_cons]
theorem _root_.Go.Proofs.YtmeodbjlmjpnbaaGreat.Wrote.kp {base g:Nat}{l:List UInt8}(h:Wrote base g W W')(hB:mD base g l W):Kp W W':=fun k cs t ht e=>h.heap e (fun ek=>by
 obtain ⟨-,cs',h1⟩:=hB.block;rw [←ek,e]at h1
 cases h1
 revert ht
 unfold au;decide) (fun et=>by subst et;revert ht;unfold au;decide)
end
theorem FB {w:World}{x:Int×Int}{ks r:Kd}{p:Option Addr}{n:Int}(h:iG w (.cons x ks r) p):Calls Tryz.prog 226 #[Lt.dA p n] w fun e w' => ∃b kp,e=.returned (.tuple #[hp (some ⟨b,0,none⟩),.bool true])∧w'.heap[b]?=some (bB x kp ks.len (1+ks.size))∧iG w' ks kp∧Below w.heap.size w w':=by
 obtain ⟨ps,h1,q,ps',rfl,⟨b,kp,rfl,hq1,hq2⟩, -⟩:=h.list;exact (Lt.jH p _ ps' n w h1).mono fun e w' ⟨he,hb⟩=>⟨b,kp,he,(hb.block _ (lt_of_heap hq1)).trans hq1,hq2.stay hb,hb⟩
structure Sh [Tb](w:World)(g:Nat)(t:Lh)(ts:List Kd)(qs:List (Option Addr×Nat))(pre:List UInt8)(v:Value)(W:World):Prop where
 own:dZ W g v qs.reverse
 wa:gM W ts qs
 tx:pre++jZ ts=t.aM
 bl:mD g g pre W
 be:Below w.heap.size w W
 gs:g≤W.heap.size
 gw:w.heap.size≤g
section
variable {w W W':World}{g:Nat}{t:Lh}{ts:List Kd}{qs:List (Option Addr×Nat)}{pre:List UInt8}{v:Value}
theorem Sh.stay [Tb](h:Sh w g t ts qs pre v W)(hb:Below W.heap.size W W'):Sh w g t ts qs pre v W' :=
 ⟨h.own.below hb,h.wa.kp (bO.below hb),h.tx,h.bl.stay hb,h.be.trans (hb.mono h.be.size),Nat.le_trans h.gs hb.size,h.gw⟩
end
theorem Gw:(Tryz.prog.info? 242).map (·.size)=some 2:=by kernel_rfl
theorem uM {ops:Array Oper}{rest:List Oper}{op:Oper}{a:Act}{w:World}{Q:Exit→Act→World→Prop}(hgd:op.guard=none)(x y:Operand)(ho:op.op=.store 242 x y)
  (b k:Nat) (hx:a.eval x=.pointer (some ⟨b,k,none⟩)) {q:Option Addr} {n:Int} (hy:a.eval y=.agg #[.pointer q,.int .i64 n]) {u0 u1:Value} (h0:w.cell? ⟨b,k,none⟩=some u0) (h1:w.cell? ⟨b,k+1,none⟩=some u1) (z0:w.frozen? ⟨b,k,none⟩=false) (z1:w.frozen? ⟨b,k+1,none⟩=false)
  (h:∀w',w'=(w.setCell ⟨b,k,none⟩ (.pointer q)).setCell ⟨b,k+1,none⟩ (.int .i64 n)→wpList Tryz.prog ops Q rest (a.put op.dst undef) w'):wpList Tryz.prog ops Q (op::rest) a w:=by
 refine wpList_store_mid hgd _ x y ho b k _ hx hy (fun j hj=>?_) Gw (all_oneCell_toArray (cs:=[.pointer q,.int .i64 n]) (by intro v hv;simp only [List.mem_cons,List.not_mem_nil,or_false]at hv;rcases hv with rfl|rfl<;>rfl)) (h _ rfl);match j,hj with
 | 0,_=>exact ⟨by rw [show k+0=k from rfl,h0];rfl,z0⟩
 | 1,_=>exact ⟨by rw [h1];rfl,z1⟩
 | j+2,hj=>simp at hj;omega
theorem gI [Tb](t:Lh)(p:Option Addr)(w:World)(he:Env w)(h:aA w t p)(hf:fits t.all)(hs:t.size<16777216):Calls Tryz.prog 209 #[hp p] w fun e w'=>e=.returned (.string ⟨t.aM.toArray⟩)∧Below w.heap.size w w':=by
 cases t with
 | nil =>
  obtain rfl:=h;go_enter Tryz.func209,Tryz.ntmps209
  go_wp2
  go_ret
  exact ⟨rfl,bG _⟩
 | node x ks =>
  obtain ⟨x1,x2⟩:=x;obtain ⟨b,kp,rfl,Iz,hk⟩:=h;obtain ⟨n,hn⟩:=aU (ks.len);rw [←hn]at Iz;have hlen:=Lh.cB (.node (x1,x2) ks) hf;have hsz:1+ks.size<16777216:=hs;have hf1:iw x1∧iw x2:=(show fits ((x1,x2)::ks.all) from hf).cons.1;have hf2:fits ks.all:=(show fits ((x1,x2)::ks.all) from hf).cons.2;have hxl:=dW x1 x2 hf1.1 hf1.2;have hb1:Below w.heap.size w ((w.alloc (.cells #[.pointer (some ⟨b,0,none⟩)] 113)).alloc (.cells #[.pointer none,.slice none 0 0] 355)):=(bG _).alloc (by simp) _;have hB1:=qw (w.alloc (.cells #[.pointer (some ⟨b,0,none⟩)] 113));simp only [World.size_alloc]at hB1;have hv1:bJ ((w.alloc (.cells #[.pointer (some ⟨b,0,none⟩)] 113)).alloc (.cells #[.pointer none,.slice none 0 0] 355)) w.heap.size (some ⟨b,0,none⟩):=bJ.alloc (bJ.at rfl) _;have HT:=hdz (show fits ks.all∧(iw x1∧iw x2)∧1+ks.size<16777216∧(Lh.node (x1,x2) ks).aM.length≤46*(1+ks.size)+1∧(nW x1 x2).length≤43∧n=ks.len from ⟨hf2,hf1,hsz,hlen,hxl,hn⟩);have HE:=hdz he;have H1:=hdz (af hb1 (af hB1 (af hv1 (af (show Kp w _ from bO.below hb1) (af Iz hk)))));have c0:=(aT Iz (bO.below hb1)).c0;have c1:=(aT Iz (bO.below hb1)).c1;have n1:¬9223372036854775807<1+(nW x1 x2).length:=by omega
  clear hlen hsz hf1 hf2 hxl hn hf hs he hb1 hB1 hv1 Iz hk;go_enter Tryz.func209,Tryz.ntmps209
  go_wp2_with fail
  clear c0 c1;generalize (w.alloc (.cells #[.pointer (some ⟨b,0,none⟩)] 113)).alloc (.cells #[.pointer none,.slice none 0 0] 355)=w1 at *;((with_reducible refine (qN (x1,x2) HT.out.2.1 _ (HE.out.below H1.out.1)).mono ?_);rintro r w2 ⟨rfl,hb2⟩);have H2:=hdz (af (H1.out.1.trans (hb2.mono H1.out.1.size)) (af (H1.out.2.1.stay hb2) (af (H1.out.2.2.1.stay hb2) (af (H1.out.2.2.2.1.trans (bO.below hb2)) H1.out.2.2.2.2))));clear hb2 H1;obtain ⟨a,ha⟩:=aU (w.heap.size);obtain ⟨g,hg⟩:=aU (w.heap.size+1);rw [←hg,←ha]at H2;rw [←hg,←ha];have HG:=hdz (af ha hg);clear ha hg;go_wp2_with fail
  ((with_reducible refine (lS g g [] (40::nW x1 x2) _ _ (pz _ _) H2.out.2.1 (by have:=HT.out;simp only [List.length_cons,List.length_nil];omega) (by obtain ⟨-,cs,h9⟩:=H2.out.2.1.block;exact Nat.le_of_lt (lt_of_heap h9))).mono ?_);rintro r w3 ⟨v3,rfl,hB3,hw3⟩);have hk3:=hw3.kp H2.out.2.1;have hv3:bJ w3 a (some ⟨b,0,none⟩):=hw3.heap H2.out.2.2.1 (by have:=HG.out;omega) (by decide)
  have hbe3:Below w.heap.size w w3:=by
   have h9:=H2.out.1.trans (hw3.below.mono (by have:=HG.out;omega));rw [HG.out.1]at h9;exact h9
  have hf3:=aT H2.out.2.2.2.2.1 (H2.out.2.2.2.1.trans hk3);have d0:=hv3.c0;have d2:=hf3.c2;have d3:=hf3.c3;have hgs3:g≤w3.heap.size:=by obtain ⟨-,cs,h9⟩:=hB3.block;exact Nat.le_of_lt (lt_of_heap h9)
  have hz3:=(Below.refl w3.heap.size w3).alloc (Nat.le_refl _) (.cells #[.pointer kp,.int .i64 (n:Int)] 242)
  have S0:=hdz (show Sh w g (.node (x1,x2) ks) [ks] [(kp,n)] (40::nW x1 x2) (.slice (some ⟨w3.heap.size,0,none⟩) 1 1) (w3.alloc (.cells #[.pointer kp,.int .i64 (n:Int)] 242)) from
   ⟨(dZ.one w3 kp n).lower hgs3,⟨(kp,n),[],rfl,((H2.out.2.2.2.2.2.kp (H2.out.2.2.2.1.trans hk3)).stay hz3),HT.out.2.2.2.2.2,HT.out.1,rfl⟩,by simp [jZ,Lh.aM],hB3.stay hz3,hbe3.trans (hz3.mono hbe3.size),Nat.le_trans hgs3 hz3.size,by have:=HG.out;omega⟩)
  clear hB3 hw3 hk3 hv3 hbe3 hf3 hgs3 hz3 H2;go_wp2_with fail
  clear d0 d2 d3;generalize w3.alloc (.cells #[.pointer kp,.int .i64 (n:Int)] 242)=w4 at *;generalize w3.heap.size=b4 at *;go_loopg [4] (fB [ks]) (fun k v wr => ∃(ts:List Kd) (qs:List (Option Addr×Nat)) (pre:List UInt8),k=fB ts∧fB ts≤fB [ks]∧Sh w g (.node (x1,x2) ks) ts qs pre v wr)
  case atStart=>exact ⟨[ks],[(kp,n)],40::nW x1 x2,rfl,Nat.le_refl _,S0.out⟩
  case round =>
   clear S0;obtain ⟨ts,qs,pre,hkk,hle,hsh⟩:=hrel;have hql:=hsh.wa.length;have S:=hdz hsh;have Q:=hdz (show gk=fB ts∧fB ts≤2*ks.size+1∧qs.length=ts.length∧pre.length≤(Lh.node (x1,x2) ks).aM.length from ⟨hkk,by simpa [fB] using hle,hql,by rw [←hsh.tx,List.length_append];omega⟩);clear hkk hle hql hsh
   cases qs with
   | nil =>
    have hv:=S.out.own;rw [List.reverse_nil]at hv;obtain ⟨A,cp,hvv⟩:=hv.empty;rw [List.length_nil]at hvv;subst hvv;have ht:ts=[]:=List.eq_nil_of_length_eq_zero (by have:=Q.out.2.2.1;simpa using this.symm);subst ht;clear hv;go_wp2_with fail
    ((with_reducible refine (sQ g g pre _ S.out.bl S.out.gs).mono ?_);rintro e w5 ⟨rfl,hb5⟩);have B5:=hdz (S.out.be.trans (hb5.mono S.out.gw));have tx:=S.out.tx;simp only [jZ,List.append_nil]at tx;have TX:=hdz tx;clear hb5 tx;go_wp2_with fail
    go_ret
    exact ⟨by rw [←TX.out];rfl,B5.out⟩
   | cons q qs =>
    obtain ⟨q1,q2⟩:=q
    cases ts with
    | nil=>exact absurd Q.out.2.2.1 (by simp)
    | cons k ts =>
    have hown:=S.out.own;rw [List.reverse_cons]at hown;obtain ⟨bo,cap,rfl,hc1,hc2,hx0,hx1,hq'⟩:=hown.last;obtain ⟨q,qs',eq,hka,hkl,hkf,hwr⟩:=S.out.wa
    cases eq
    have hn1:qs.reverse.length=qs.length:=List.length_reverse;rw [hn1]at hc1 hx0 hx1 hq' ⊢;have hwl:=Ay (k::ts);obtain ⟨L,hL⟩:=aU (qs.length+1);obtain ⟨m,hm⟩:=aU (qs.length);rw [←hm]at hx0 hx1 hq';rw [←hL]at hc1;rw [←hL];have hml:m<33554433:=by have h5:=Q.out.2.1;have h6:=Q.out.2.2.1;have h7:=HT.out.2.2.1;simp only [List.length_cons]at h6 hwl;omega
    simp only at hx0 hx1 hka hkl;have g1:decide ((0:Int)<(L:Int))=true:=by simp;omega
    have g2:(0:Int)<(L:Int):=by omega
    have g3:0<L:=by omega
    have g4:IntKind.i64.wrap ((L:Int) - 1)=(m:Int):=by rw [IntKind.wrap_i64];omega
    have g5:(0:Int)≤(m:Int):=by omega
    have g6:(m:Int)<(L:Int):=by omega
    have g7:m<L:=by omega
    have g8:m≤cap:=by omega
    have hvL:dZ wr g (.slice (some ⟨bo,0,none⟩) L cap) (qs.reverse++[(q1,q2)]):=by rw [hL,←hn1];exact hown
    have X:=hdz (af hvL (af hq' (af hka (af hkl (af hkf (af hwr (af hL (af hm hml))))))));clear hown hc1 hc2 hka hkl hkf hwr hn1 hwl hL hm hml hvL hq'
    cases k with
    | nil =>
     obtain rfl:q1=none:=X.out.2.2.1;go_wp2_with fail
     ((with_reducible refine (Lt.kK _ _).mono ?_);rintro e w5 ⟨rfl,hb5⟩);have hz5:=(Below.refl w5.heap.size w5).alloc (Nat.le_refl _) (.cells #[.pointer none] 113);have S5:=hdz ((S.out.stay hb5).stay hz5);have O5:=hdz ((X.out.2.1.below hb5).below hz5);clear hb5 hz5 hx0 hx1;go_wp2_with fail
     generalize w5.alloc (.cells #[.pointer none] 113)=w6 at *;((with_reducible refine (yB g g pre [41] _ S5.out.bl (by have:=Q.out;have:=HT.out;simp only [List.length_cons,List.length_nil];omega) S5.out.gs).mono ?_);rintro e w7 ⟨v7,rfl,hB7,hw7⟩);have hk7:=hw7.kp S5.out.bl
     have S7:=hdz (show Sh w g (.node (x1,x2) ks) ts qs (pre++[41]) (.slice (some ⟨bo,0,none⟩) m cap) w7 from
      ⟨O5.out.wrote S5.out.bl hw7,by obtain ⟨_,_,eq, -, -, -,h5⟩:=S5.out.wa;cases eq;exact h5.kp hk7,by have h5:=S5.out.tx;simpa [jZ,Kd.aM] using h5,hB7,S5.out.be.trans (hw7.below.mono S5.out.gw),by obtain ⟨-,cs,h9⟩:=hB7.block;exact Nat.le_of_lt (lt_of_heap h9),S5.out.gw⟩)
     clear hB7 hw7 hk7 S5 O5;go_wp2_with fail
     go_roundg (fB ts)
     case measure=>have h5:=Q.out.1;simp only [fB]at h5;omega
     case rel=>exact ⟨ts,qs,pre++[41],rfl,by have h5:=Q.out.2.1;simp only [fB,Kd.size]at h5 ⊢;omega,S7.out⟩
    | cons y ls r =>
     obtain ⟨y1,y2⟩:=y;go_wp2_with fail
     ((with_reducible refine (FB X.out.2.2.1).mono ?_);rintro e w5 ⟨nb,lp,rfl,hnb,hlk,hb5⟩);obtain ⟨ln,hln⟩:=aU (ls.len);rw [←hln]at hnb;have hz5:=(Below.refl w5.heap.size w5).alloc (Nat.le_refl _) (.cells #[.pointer (some ⟨nb,0,none⟩)] 113);have S5:=hdz ((S.out.stay hb5).stay hz5);have O5:=hdz ((X.out.1.below hb5).below hz5);have V5:=hdz (bJ.at (W:=w5) (p:=some ⟨nb,0,none⟩) rfl);have N5:=hdz (af (show (w5.alloc (.cells #[.pointer (some ⟨nb,0,none⟩)] 113)).heap[nb]?=some (bB (y1,y2) lp ln (1+ls.size)) from (hz5.block _ (lt_of_heap hnb)).trans hnb) (hlk.stay hz5));have HLN:=hdz hln;have f5:=five N5.out.1;have c0:=f5.c0;have c1:=f5.c1;have hkf:=(show fits (((y1,y2)::ls.all)++r.all) from X.out.2.2.2.2.1).append;have hyl:=dW y1 y2 hkf.1.cons.1.1 hkf.1.cons.1.2;have HF:=hdz (show (iw y1∧iw y2)∧fits ls.all∧fits r.all∧(nW y1 y2).length≤43 from ⟨hkf.1.cons.1,hkf.1.cons.2,hkf.2,hyl⟩);have n2:¬9223372036854775807<1+1+(nW y1 y2).length:=by omega
     have n3:¬9223372036854775807<2+(nW y1 y2).length:=by omega
     clear hb5 hz5 hnb hlk hln hx0 hx1 f5 hkf hyl;go_wp2_with fail
     clear c0 c1;generalize w5.alloc (.cells #[.pointer (some ⟨nb,0,none⟩)] 113)=w6 at *;obtain ⟨bk,hbk⟩:=aU (w5.heap.size);rw [←hbk]at V5 ⊢;clear hbk;((with_reducible refine (qN (y1,y2) HF.out.1 _ (HE.out.below S5.out.be)).mono ?_);rintro e w7 ⟨rfl,Iu⟩);have S7:=hdz (S5.out.stay Iu);have O7:=hdz (O5.out.below Iu);have V7:=hdz (V5.out.stay Iu);have N7:=hdz (af ((Iu.block _ (lt_of_heap N5.out.1)).trans N5.out.1) (N5.out.2.stay Iu));clear Iu S5 O5 V5 N5;go_wp2_with fail
     ((with_reducible refine (lS g g pre (32::40::nW y1 y2) _ _ (Eo _ _ _) S7.out.bl (by have:=Q.out;have:=HT.out;have:=HF.out;simp only [List.length_cons];omega) S7.out.gs).mono ?_);rintro e w8 ⟨v8,rfl,hB8,hw8⟩);have hk8:=hw8.kp S7.out.bl;have hgn:∃cs,w7.heap[g]?=some (.cells cs 355 (0,0)):=S7.out.bl.block.2;have V8:bJ w8 bk (some ⟨nb,0,none⟩):=hw8.heap V7.out (by rintro rfl;obtain ⟨cs,h9⟩:=hgn;rw [show w7.heap[bk]?=_ from V7.out]at h9;cases h9) (by decide);have O8:=O7.out.wrote S7.out.bl hw8;obtain ⟨bo',cap',eo,hd1,hd2,hx0,hx1, -⟩:=O8.last;have eo':bo'=bo:=by cases eo;rfl
     subst eo';rw [List.length_reverse,←X.out.2.2.2.2.2.2.2.1]at hx0 hx1;simp only at hx0 hx1;have hwa8:gM w8 (.cons (y1,y2) ls r::ts) ((q1,q2)::qs):=S7.out.wa.kp hk8
     have hka8:iG w8 (.cons (y1,y2) ls r) q1∧gM w8 ts qs:=by
      obtain ⟨_,_,eq,h5, -, -,h6⟩:=hwa8
      cases eq
      exact ⟨h5,h6⟩
     have Z:=hdz hka8;clear hka8;have Y:=hdz (af hB8 (af V8 (af O8 (af hwa8 (af (hk8 _ _ _ (.inl rfl) N7.out.1) (af (N7.out.2.kp hk8) (af (S7.out.be.trans (hw8.below.mono S7.out.gw)) (af S7.out.tx S7.out.gw))))))));clear hB8 hw8 hk8 hgn V8 O8 hwa8 hd1 hd2 eo S7 O7 V7 N7;go_wp2_with fail
     ((with_reducible refine (Co (ks := .cons (y1,y2) ls r) Z.out.1 X.out.2.2.2.1 (by have h5:=X.out.2.2.2.1;have h6:=(Kd.cons (y1,y2) ls r).fE;have h7:=Q.out.2.1;simp only [fB]at h7;have:=HT.out.2.2.1;omega)).mono ?_);rintro e w9 ⟨q',n',rfl,hk9,hn9,hb9⟩);have V9:=Y.out.2.1.stay hb9;have O9:=Y.out.2.2.1.below hb9;obtain ⟨cso,hbo⟩:∃cs,w9.heap[bo']?=some (.cells cs 242 (0,0)):=(O9.kind bo' rfl).2.2;have hkS:Kp w9 ((w9.setCell ⟨bo',m*2,none⟩ (.pointer q')).setCell ⟨bo',m*2+1,none⟩ (.int .i64 (n':Int))):=(bO.set hbo dh _ _).trans (bO.set (heap_put (j:=m*2) hbo _) dh _ _);have O10:=O9.turn q' n' m (by rw [List.length_reverse];exact X.out.2.2.2.2.2.2.2.1);have hne:bk≠bo':=by rintro rfl;rw [show w9.heap[bk]?=_ from V9]at hbo;cases hbo
     have V10:bJ ((w9.setCell ⟨bo',m*2,none⟩ (.pointer q')).setCell ⟨bo',m*2+1,none⟩ (.int .i64 (n':Int))) bk (some ⟨nb,0,none⟩):=(aH _ _ hne).trans ((aH _ _ hne).trans V9)
     have B10:mD g g (pre++32::40::nW y1 y2) ((w9.setCell ⟨bo',m*2,none⟩ (.pointer q')).setCell ⟨bo',m*2+1,none⟩ (.int .i64 (n':Int))) :=
      ((Y.out.1.stay hb9).grown (uS _ bo' (m*2) _) (fun k ek=>by cases ek;exact ⟨cso,_,_,hbo,by decide,by decide⟩)).grown (uS _ bo' (m*2+1) _) (fun k ek=>by cases ek;exact ⟨_,_,_,heap_put (j:=m*2) hbo _,by decide,by decide⟩)
     have hgo:g≤bo':=(O9.kind bo' rfl).1;have hbe9:Below w.heap.size w w9:=Y.out.2.2.2.2.2.2.1.trans (hb9.mono Y.out.2.2.2.2.2.2.1.size);have hbe10:Below w.heap.size w ((w9.setCell ⟨bo',m*2,none⟩ (.pointer q')).setCell ⟨bo',m*2+1,none⟩ (.int .i64 (n':Int))):=(hbe9.setCell (p:=⟨bo',m*2,none⟩) (Nat.le_trans Y.out.2.2.2.2.2.2.2.2 hgo) _).setCell (p:=⟨bo',m*2+1,none⟩) (Nat.le_trans Y.out.2.2.2.2.2.2.2.2 hgo) _;have hgs10:g≤((w9.setCell ⟨bo',m*2,none⟩ (.pointer q')).setCell ⟨bo',m*2+1,none⟩ (.int .i64 (n':Int))).heap.size:=by obtain ⟨-,cs,h9⟩:=B10.block;exact Nat.le_of_lt (lt_of_heap h9)
     have N10:((w9.setCell ⟨bo',m*2,none⟩ (.pointer q')).setCell ⟨bo',m*2+1,none⟩ (.int .i64 (n':Int))).heap[nb]?=some (bB (y1,y2) lp ln (1+ls.size)):=hkS _ _ _ (.inl rfl) ((hb9.block _ (lt_of_heap Y.out.2.2.2.2.1)).trans Y.out.2.2.2.2.1);have K10:=(Y.out.2.2.2.2.2.1.stay hb9).kp hkS;have R10:=hk9.kp hkS;have W10:gM _ ts qs:=Z.out.2.kp ((bO.below hb9).trans hkS);obtain ⟨v11,w11,hrun,hown11,hg11⟩:=yX ((w9.setCell ⟨bo',m*2,none⟩ (.pointer q')).setCell ⟨bo',m*2+1,none⟩ (.int .i64 (n':Int))) g _ (qs.reverse++[(q',n')]) lp ln O10 (by have h5:=X.out.2.2.2.2.2.2.2;simp only [List.length_append,List.length_reverse,List.length_cons,List.length_nil];omega) hgs10;have e0:w9.cell? ⟨bo',m*2,none⟩=some (.pointer q1):=(hb9.cell (p:=⟨bo',m*2,none⟩) (block_lt_of_cell hx0)).trans hx0;have e1:w9.cell? ⟨bo',m*2+1,none⟩=some (.int .i64 (q2:Int)):=(hb9.cell (p:=⟨bo',m*2+1,none⟩) (block_lt_of_cell hx1)).trans hx1;have e2:w9.frozen? ⟨bo',m*2,none⟩=false:=by simp [World.frozen?,hbo]
     have e3:w9.frozen? ⟨bo',m*2+1,none⟩=false:=by simp [World.frozen?,hbo]
     have e4:=V10.c0;have e5:=(five N10).c2;have e6:=(five N10).c3;have hza:=(Below.refl ((w9.setCell ⟨bo',m*2,none⟩ (.pointer q')).setCell ⟨bo',m*2+1,none⟩ (.int .i64 (n':Int))).heap.size ((w9.setCell ⟨bo',m*2,none⟩ (.pointer q')).setCell ⟨bo',m*2+1,none⟩ (.int .i64 (n':Int)))).alloc (Nat.le_refl _) (.cells #[.pointer lp,.int .i64 (ln:Int)] 242);have hbo10:∃cs,((w9.setCell ⟨bo',m*2,none⟩ (.pointer q')).setCell ⟨bo',m*2+1,none⟩ (.int .i64 (n':Int))).heap[bo']?=some (.cells cs 242 (0,0)):=⟨_,heap_put (j:=m*2+1) (heap_put (j:=m*2) hbo _) _⟩
     have hk11:Kp ((w9.setCell ⟨bo',m*2,none⟩ (.pointer q')).setCell ⟨bo',m*2+1,none⟩ (.int .i64 (n':Int))) w11:=(bO.below hza).trans (bO.grown hg11 (fun k ek cs ty hk hn=>by
      cases ek
      obtain ⟨cs2,h9⟩:=hbo10;rw [hza.block _ (lt_of_heap h9),h9]at hk
      cases hk
      exact dh hn))
     have S11:=hdz (show Sh w g (.node (x1,x2) ks) (ls::r::ts) ((lp,ln)::(q',n')::qs) (pre++32::40::nW y1 y2) v11 w11 from
      ⟨by rw [List.reverse_cons,List.reverse_cons];exact hown11,
       ⟨(lp,ln),_,rfl,K10.kp hk11,HLN.out,HF.out.2.1,(q',n'),qs,rfl,R10.kp hk11,hn9,HF.out.2.2.1,W10.kp hk11⟩,
       by have h5:=Y.out.2.2.2.2.2.2.2.1;rw [Du]at h5;simpa using h5,
       (B10.stay hza).grown hg11 (fun k ek=>by cases ek;obtain ⟨cs2,h9⟩:=hbo10;exact ⟨cs2,_,_,(hza.block _ (lt_of_heap h9)).trans h9,by decide,by decide⟩),
       below_grown (hbe10.trans (hza.mono hbe10.size)) hg11 (Nat.le_trans hbe10.size hza.size) (fun k ek=>by cases ek;exact Nat.le_trans Y.out.2.2.2.2.2.2.2.2 hgo),
       Nat.le_trans hgs10 (Nat.le_trans hza.size hg11.size),Y.out.2.2.2.2.2.2.2.2⟩)
     clear V9 O9 hkS O10 hne V10 B10 hgo hbe9 hbe10 hgs10 N10 K10 R10 W10 hown11 hg11 hza hbo10 hk11 hbo hk9 hn9 hb9 hx0 hx1;generalize hw10:(w9.setCell ⟨bo',m*2,none⟩ (.pointer q')).setCell ⟨bo',m*2+1,none⟩ (.int .i64 (n':Int))=w10 at *;have HW:=hdz hw10;have HR:=hdz hrun;clear hw10 hrun
     go_wp2_with (first
      | (refine uM rfl _ _ rfl bo' (m*2) rfl rfl e0 e1 e2 e3 ?_;rw [HW.out];intro w10b hw10b;rw [hw10b];clear hw10b w10b)
      | (at_builtin;refine wpList_append_run rfl _ _ _ rfl _ _ _ _ rfl rfl HR.out ?_))
     go_roundg (fB (ls::r::ts))
     case measure=>have h5:=Q.out.1;simp only [fB,Kd.size]at h5 ⊢;omega
     case rel=>exact ⟨_,_,_,rfl,by have h5:=Q.out.2.1;simp only [fB,Kd.size]at h5 ⊢;omega,S11.out⟩
end Go.Proofs.YtmeodbjlmjpnbaaGreat.Pd
namespace Go.Proofs.YtmeodbjlmjpnbaaGreat.Sk
open Go.Sort Go.RowKit
def Lh.aM [Tb](h:Lh):List UInt8:=nI h.ts
end Go.Proofs.YtmeodbjlmjpnbaaGreat.Sk
namespace Go.Proofs.YtmeodbjlmjpnbaaGreat.Sk.Hp
open Go.Sort Go.RowKit
theorem gU [Tb](t:ai)(h:fits t.all):t.aM.length≤46*t.size:=by
 have h0:=h.cons;have h1:=dW t.x.1 t.x.2 h0.1.1 h0.1.2;have h2:=fq t.bs h0.2.append.1;have h3:=t.ks.cB h0.2.append.2;simp only [ai.aM,ai.size,List.length_append,List.length_cons,List.length_nil]at *;omega
theorem jN [Tb]:∀l:List ai,fits (aR l)→(kD l).length≤47*ah l
 | [],_=>by simp [kD]
 | t::r,h=>by
  have h1:=gU t h.append.1;have h2:=jN r h.append.2;have h3:1≤t.size:=by simp only [ai.size];omega
  simp only [kD,ah,List.length_append,List.length_cons];omega
theorem pG [Tb]:∀(r:List ai) (t:ai),[32].intercalate ((t::r).map ai.aM)=t.aM++kD r
 | [],t=>by simp [List.intercalate,kD]
 | u::r,t=>by
  have ih:=pG r u;simp only [List.map_cons,List.intercalate]at ih ⊢;rw [List.intersperse_cons_cons];simp only [List.flatten_cons]at ih ⊢;rw [ih];simp [kD]
def Bf [Tb](t:ai):Value := .string ⟨t.aM.toArray⟩
abbrev x9 [Tb](w:World)(base:Nat)(v:Value)(ts:List ai):Prop:=Mine Bf 9 w base v ts
theorem zM:(Tryz.prog.info? 9).map (fun i=>(i.zero,i.size,i.bytes))=some (some (.string ⟨#[]⟩),1,16):=by kernel_rfl
theorem sF [Tb](w:World)(base:Nat)(v:Value)(ts:List ai)(t:ai)(hown:x9 w base v ts)(hlen:ts.length<1073741824)(hb:base≤w.heap.size) :
  ∃v' w',(Builtin.append_ #[372, 372] 372 #[v,.slice (some ⟨w.heap.size,0,none⟩) 1 1]).run Tryz.prog (w.alloc (.cells #[.string ⟨t.aM.toArray⟩] 9))=.ok v' w'∧x9 w' base v' (ts++[t])∧Below base w w':=by
 obtain ⟨i0,hi,hz0,hz1,hz2⟩:=info_parts zM;have hown':(w.alloc (.cells #[.string ⟨t.aM.toArray⟩] 9)).ownsRow base 9 1 v ts.length (ts.map Bf):=World.ownsRow.alloc hown _
 obtain ⟨g,c,w',h1,h2,h3, -, -⟩:=run_append_lies (P:=Tryz.prog) (w:=w.alloc (.cells #[.string ⟨t.aM.toArray⟩] 9)) 372 372 base 9 i0 _ 1 16 Tryz.underlying372 hi hz0 hz1 hz2 rfl (by omega)
  _ ts.length (ts.map Bf) hown' ⟨w.heap.size,0,none⟩ 1 1 [.string ⟨t.aM.toArray⟩] rfl
  (fun j u hu=>by
   rw [jY];have e1:(w.alloc (.cells #[.string ⟨t.aM.toArray⟩] 9)).heap[w.heap.size]?=some (.cells #[.string ⟨t.aM.toArray⟩] 9 (0,0)):=aJ rfl;unfold World.cell?;rw [e1];simpa using hu) (by intro u hu;simp at hu;subst hu;rfl) (by omega) (by unfold maxLen;omega) (by omega) (by simp;omega) _ rfl
 refine ⟨_,w',h1,?_,below_grown ((Below.refl _ _).alloc hb _) h3 (by simp;omega) (fun g hg=>hown.block g hg)⟩;unfold x9 Mine;rw [List.length_append,List.map_append];exact h2
theorem yY {l:List ai}(h:fits (aR l)){t:ai}(ht:t∈l):fits t.all:=by
 induction l with
 | nil=>cases ht
 | cons u r ih =>
  rcases List.mem_cons.1 ht with rfl|hr
  ·exact h.append.1
  ·exact ih h.append.2 hr
theorem size_at {l:List ai}{t:ai}(ht:t∈l):t.size≤ah l:=by
 induction l with
 | nil=>cases ht
 | cons u r ih =>
  simp only [ah];rcases List.mem_cons.1 ht with rfl|hr
  ·omega
  ·have:=ih hr;omega
theorem nL [Tb](v:Value)(ts:List ai)(base:Nat)(w:World)(hown:x9 w base v ts)(hne:ts≠[])(hf:fits (aR ts))(hs:ah ts<268435456) :
  Calls Tryz.prog 229 #[v,.string ⟨#[32]⟩] w fun e w'=>e=.returned (.string ⟨(nI ts).toArray⟩)∧Below w.heap.size w w':=by
 obtain ⟨A,c,rfl,hr,hc, -, -⟩:=hown.form;have hpos:0<ts.length:=List.length_pos_iff.2 hne;obtain ⟨b,o,rfl,hcell⟩:=hr hpos
 have hbs:nI ts=[32].intercalate (ts.map ai.aM):=by
  cases ts with
  | nil=>exact absurd rfl hne
  | cons t r=>rw [pG];rfl
 have hmap:(ts.map (fun t=>(⟨t.aM.toArray⟩:ByteArray))).map (·.data.toList)=ts.map ai.aM:=by
  rw [List.map_map];rfl
 have hlen:(nI ts).length≤47*ah ts:=by
  cases ts with
  | nil=>exact absurd rfl hne
  | cons t r =>
   have h1:=gU t hf.append.1;have h2:=jN r hf.append.2;simp only [nI,ah,List.length_append];omega
 have hl:=bW ts
 have h:=Tryz.strings_Join b o c (ts.map (fun t=>(⟨t.aM.toArray⟩:ByteArray))) ⟨#[32]⟩ w
  (fun j x hx=>by
   rw [List.getElem?_map]at hx
   cases ht:ts[j]? with
   | none=>rw [ht]at hx;cases hx
   | some t =>
    rw [ht]at hx;obtain ⟨hj,rfl⟩:=List.getElem?_eq_some_iff.1 ht
    cases hx
    exact hcell j hj)
  (block_lt_of_cell (hcell 0 hpos)) (by rw [List.length_map];omega) (by rw [List.length_map];exact hc)
  (by rw [hmap];show ([32].intercalate (ts.map ai.aM)).length≤_;rw [←hbs];omega)
 rw [hmap,List.length_map]at h;refine h.mono fun e w' ⟨he,hb⟩=>⟨?_,hb⟩;rw [he,hbs];rfl
theorem gI [Tb](t:Lh)(p:HP)(w:World)(he:Env w)(h:aA w t p)(hf:fits t.all)(hs:t.size<268435456):Calls Tryz.prog 210 #[hp p] w fun e w'=>e=.returned (.string ⟨t.aM.toArray⟩)∧Below w.heap.size w w':=by
 obtain ⟨ts⟩:=t;obtain ⟨ps,n,hn,hnl,hl,ht⟩:=h.list;obtain ⟨q,pn⟩:=p;change pn=(n:Int) at hn;subst hn;have hb1:Below w.heap.size w (w.alloc (.cells #[.pointer q,.int .i64 (n:Int)] 117)):=(Below.refl _ w).alloc (Nat.le_refl _) _;have hpl:=ht.length;have hlb:=bW ts;have B1:=hdz (aB.new w 117 (.pointer q) (.int .i64 (n:Int)));have H:=hdz (af (hl.stay hb1) (af (ht.kp (bO.below hb1)) (af hb1 (af he (af (show n=ts.length from hnl) (af (show fits (aR ts) from hf) (af (show ah ts<268435456 from hs) (af hpl hlb))))))));clear h hl ht hb1 he hf hs hnl hpl hlb;go_enter Tryz.func210,Tryz.ntmps210
 go_wp2_with fail
 ((with_reducible refine (Lt.Cf (n:=n)).mono ?_);rintro e w2 ⟨rfl,hb2⟩);by_cases h0:n=0
 ·have q0:((n:Int) == 0)=true:=by simp;omega
  have q1:(n:Int)=0:=by omega
  have hz:ts=[]:=List.eq_nil_of_length_eq_zero (by have:=H.out;omega);have Y:=hdz (af hz (H.out.2.2.1.trans (hb2.mono H.out.2.2.1.size)));clear hz hb2;go_wp2_with fail
  go_ret
  exact ⟨by have:=Y.out.1;subst this;rfl,Y.out.2⟩
 have q0:((n:Int) == 0)=false:=by simp;omega
 have q1:¬(n:Int)=0:=by omega
 have q2:¬n=0:=h0;have B2:=hdz (B1.out.stay hb2);have c0:=B2.out.c0;have c1:=B2.out.c1;have H2:=hdz (af (H.out.1.stay hb2) (af (H.out.2.1.kp (bO.below hb2)) (H.out.2.2.1.trans (hb2.mono H.out.2.2.1.size))));clear hb2 h0;go_wp2_with fail
 ((with_reducible refine (Lt.qK H2.out.1).mono ?_);rintro e w3 ⟨A,cc,rfl, -,hr,hnc,hb3⟩);have hb3':=H2.out.2.2.trans (hb3.mono H2.out.2.2.size);obtain ⟨b,o,rfl⟩:=jW hr (by have:=H.out;omega);have X0:=hdz (af hr (af (H2.out.2.1.kp (bO.below hb3)) hb3'));clear hr hnc hb3 hb3' c0 c1;go_wp2_with fail
 go_loopg [3,14] n (fun k v iv wr => ∃i:Nat,iv=.int .i64 (i:Int)∧i+k=n∧x9 wr w3.heap.size v (ts.take i)∧Below w3.heap.size w3 wr)
 case atStart=>exact ⟨0,rfl,by omega,Mine.none _ _ _,Below.refl _ _⟩
 case round =>
  obtain ⟨i,rfl,hi,hown,hbe⟩:=hrel;by_cases hlt:i<n
  ·have hil:i<ts.length:=by have:=H.out.2.2.2.2.1;omega
   obtain ⟨a,ha,hta⟩:=X0.out.2.1.at (List.getElem?_eq_getElem hil);have hmem:ts[i]∈ts:=List.getElem_mem hil;have htk:ts.take (i+1)=ts.take i++[ts[i]]:=List.take_succ_eq_append_getElem hil;have hx:=(hbe.cell (block_lt_of_cell (jP X0.out.1 ha))).trans (jP X0.out.1 ha);have g1:decide ((i:Int)<(n:Int))=true:=by simp;omega
   have g2:(i:Int)<(n:Int):=by omega
   have g3:(0:Int)≤(i:Int):=by omega
   have hft:=yY H.out.2.2.2.2.2.1 hmem;have hsz:=size_at hmem;generalize ts[i]=t at *;have X:=hdz (af hown (af hbe (af hta (af htk (af (show fits (Dl (some t)) from hft) (af hsz hi))))));clear hown hbe hta htk hft hsz hi hil ha hmem;go_wp2_with fail
   ((with_reducible refine (Go.Proofs.YtmeodbjlmjpnbaaGreat.gI a (some t) _ ((H.out.2.2.2.1.below X0.out.2.2).below X.out.2.1) (X.out.2.2.1.stay X.out.2.1) X.out.2.2.2.2.1 (by have:=X.out;have:=H.out;simp only [bF];omega)).mono ?_);rintro e w4 ⟨rfl,hb4⟩);rw [show Ae (some t)=t.aM from rfl];have hlen:(ts.take i).length<1073741824:=by rw [List.length_take];have:=H.out;omega
   have hb5:=X.out.2.1.trans (hb4.mono X.out.2.1.size);obtain ⟨v3,w5,hrun,hown3,hb6⟩:=sF w4 w3.heap.size _ (ts.take i) t (X.out.1.stay hb4) hlen hb5.size;have HR:=hdz hrun;have Y:=hdz (af hown3 (hb5.trans hb6));clear hb4 hlen hb5 hrun hown3 hb6;go_wp2_with (at_builtin;refine wpList_append_run rfl _ _ _ rfl _ _ _ _ rfl rfl HR.out ?_)
   go_roundg (n - 1 - i)
   case measure=>have:=X.out.2.2.2.2.2.2;omega
   case rel=>exact ⟨i+1,by first|rfl|(congr 1;have:=H.out;first|(unfold wrap64;omega)|(rw [IntKind.wrap_i64];omega)),by have:=X.out.2.2.2.2.2.2;omega,X.out.2.2.2.1▸Y.out.1,Y.out.2⟩
  ·have hin:i=n:=by omega
   have g1:decide ((i:Int)<(n:Int))=false:=by simp;omega
   have g2:¬(i:Int)<(n:Int):=by omega
   have htk:ts.take i=ts:=by rw [hin,H.out.2.2.2.2.1,List.take_length]
   rw [htk]at hown;have hne:ts≠[]:=by intro e;have:=H.out.2.2.2.2.1;rw [e]at this;simp at this;omega
   have X:=hdz (af hown (af hbe hne));clear hne;clear hown hbe htk hi;go_wp2_with fail
   ((with_reducible refine (nL _ ts w3.heap.size _ X.out.1 X.out.2.2 H.out.2.2.2.2.2.1 H.out.2.2.2.2.2.2.1).mono ?_);rintro e w4 ⟨rfl,hb4⟩);have Y:=hdz (X0.out.2.2.trans ((X.out.2.1.trans (hb4.mono X.out.2.1.size)).mono X0.out.2.2.size));clear hb4;go_wp2_with fail
   go_ret
   exact ⟨rfl,Y.out⟩
end Go.Proofs.YtmeodbjlmjpnbaaGreat.Sk.Hp
namespace Go.Proofs.YtmeodbjlmjpnbaaGreat.Sk.Ro
open Go.Sort Go.RowKit
def Lh.aM [Tb]:Lh→List UInt8
 | .nil=>[46]
 | .node x o=>nW x.1 x.2++32::o.aM
end Go.Proofs.YtmeodbjlmjpnbaaGreat.Sk.Ro
namespace Go.Proofs.YtmeodbjlmjpnbaaGreat.Sk.Ro
open Go.Sort Go.RowKit
theorem wP [Tb](o:Sk)(h:fits o.all):o.aM.length≤47*o.size+1:=by
 obtain ⟨l⟩:=o
 cases l with
 | nil=>show 1≤_;omega
 | cons t r =>
  have h1:=Hp.gU t (show fits (t.all++aR r) from h).append.1;have h2:=Hp.jN r (show fits (t.all++aR r) from h).append.2;show (t.aM++kD r).length≤47*(t.size+ah r)+1;rw [List.length_append];omega
theorem gI [Tb](t:Lh)(p:Option Addr)(w:World)(he:Env w)(h:aA w t p)(hf:fits t.all)(hs:t.size<268435456):Calls Tryz.prog 211 #[hp p] w fun e w'=>e=.returned (.string ⟨t.aM.toArray⟩)∧Below w.heap.size w w':=by
 have hb1:Below w.heap.size w (w.alloc (.cells #[.pointer p] 122)):=bG _;have hv:bJ (w.alloc (.cells #[.pointer p] 122)) w.heap.size p:=aJ rfl
 cases t with
 | nil =>
  obtain rfl:=h;go_enter Tryz.func211,Tryz.ntmps211
  go_wp2_with fail
  go_ret
  exact ⟨rfl,hb1⟩
 | node x o =>
  obtain ⟨x1,x2⟩:=x;obtain ⟨b,q,rfl,hb,ho⟩:=h;have hx:iw x1∧iw x2:=(show fits ((x1,x2)::o.all) from hf).cons.1;have hfo:fits o.all:=(show fits ((x1,x2)::o.all) from hf).cons.2;have hso:o.size<268435456:=by simp only [Lh.size]at hs;omega
  have hlt:=dW x1 x2 hx.1 hx.2;have hlo:=wP o hfo;have k:=rT hb (bO.below hb1);have c0:=hv.c0;have c1:=k.c0;have c2:=k.c1;have H:=hdz (af hb1 (af (he.below hb1) (Hp.aA.stay ho hb1)));have HX:=hdz (af hx (af hfo hso));have HV:=hdz hv;have HK:=hdz k;have HS:=hdz (show (Lh.node (x1,x2) o).aM=nW x1 x2++32::o.aM from rfl);obtain ⟨u,hu⟩:=aU (nW x1 x2);obtain ⟨v,hv2⟩:=aU (o.aM);rw [←hu]at hlt;rw [←hv2]at hlo;have HU:=hdz (af hu hv2);have n1:¬9223372036854775807<u.length+1:=by omega
  have n2:¬9223372036854775807<u.length+1+v.length:=by omega
  clear k hv hb1 hb ho he hf hs hx hfo hso hlt hlo hu hv2;go_enter Tryz.func211,Tryz.ntmps211
  go_wp2_with fail
  obtain ⟨a,ha⟩:=aU (w.heap.size);rw [←ha]at HV c0 ⊢;generalize w.alloc (.cells #[.pointer (some ⟨b,0,none⟩)] 122)=w1 at *;have HA:=hdz ha;clear ha c0 c1 c2;have kc0:=fun d os=>cell_regrown HV.out.c0 d os;have kc1:=fun d os=>cell_regrown HK.out.c0 d os;have kc2:=fun d os=>cell_regrown HK.out.c1 d os;have kc3:=fun d os=>cell_regrown HK.out.c2 d os;have kc4:=fun d os=>cell_regrown HK.out.c3 d os;have HC1:=hdz (fun d os=>zV (w:=w1) (fun W hb=>((uF x1 x2 HX.out.1.1 HX.out.1.2 W (H.out.2.1.below hb)).mono fun _ _ ⟨he,hb2⟩=>⟨(show _=Ending.returned (.string ⟨u.toArray⟩) by rw [he,HU.out.1]),hb2⟩)) d os);have HC2:=hdz (fun d os=>zV (w:=w1) (fun W hb=>((Hp.gI o q W (H.out.2.1.below hb) (Hp.aA.stay H.out.2.2 hb) HX.out.2.1 HX.out.2.2).mono fun _ _ ⟨he,hb2⟩=>⟨(show _=Ending.returned (.string ⟨v.toArray⟩) by rw [he,HU.out.2]),hb2⟩)) d os);rw [xD w1];generalize w1.drawn=d0;generalize (#[]:Array Obj)=os0;refine kg (by kernel_rfl) (by kernel_rfl) ?_;repeat (go_big_quiet_step (first|(with_reducible exact HC1.out _ _)|(with_reducible exact HC2.out _ _)|fail))
  refine wpQuiet_nil ?_;intro _ hw';obtain ⟨⟨dq,osq⟩,hw''⟩:=hw';subst hw'';have HB:=hdz (H.out.1.trans ((below_regrown w1 dq osq).mono H.out.1.size));clear kc0 kc1 kc2 kc3 kc4;go_wp2_with fail
  go_ret
  refine ⟨?_,HB.out⟩;rw [HS.out,←HU.out.1,←HU.out.2,show (⟨#[32]⟩:ByteArray)=⟨[32].toArray⟩ from rfl,lC,lC];simp
end Go.Proofs.YtmeodbjlmjpnbaaGreat.Sk.Ro
