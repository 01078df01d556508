/- Columns: slices of the call's own whose things, one cell each, are what some data so far are at: what keeps them, what stands at a place, one thing more. No conditions beyond what each theorem says. -/
import Derived.Test.YtbpbadolgmbhnaaGreatPa
import Derived.RangeFuncRecord
import Derived.Test.YtbpbadolgmbhnaaGreatPk
import Derived.Lib.SmallJoins
import Derived.Deep.LoopGhost
import Derived.Deep.RegionHeld3
set_option maxRecDepth 100000
set_option maxHeartbeats 64000000
namespace Go.Proofs.YtbpbadolgmbhnaaGreat
open Go.Sort Go.RowKit
section
variable {α τ : Type} {one : α → Value} {e:TypeId} {at_:World → α → τ → Prop} {W W':World} {base:Nat} {v:Value} {ts:List τ}
def Col (one : α → Value) (e:TypeId) (at_:World → α → τ → Prop) (W:World) (base:Nat) (v:Value) (ts:List τ):Prop :=
 ∃ xs:List α,Mine one e W base v xs ∧ xs.length = ts.length ∧ ∀ (j:Nat) (t : τ),ts[j]? = some t → ∃ x,xs[j]? = some x ∧ at_ W x t
theorem Col.keep (h:Col one e at_ W base v ts) (hk:∀ (g:Nat) (cur:Array Value),v.ownBlock = some g → W.heap[g]? = some (.cells cur e (0,0)) → W'.heap[g]? = W.heap[g]?) (hat:∀ x t,at_ W x t → at_ W' x t):Col one e at_ W' base v ts:=by
 obtain ⟨xs,hm,hl,ha⟩:=h;refine ⟨xs,⟨hm.1,?_⟩,hl,fun j t ht => ?_⟩
 ·rcases hm.2 with hn | ⟨g,cap,cur,rfl,hg1,hg,rest⟩
  ·exact .inl hn
  ·exact .inr ⟨g,cap,cur,rfl,hg1,(hk g cur rfl hg).trans hg,rest⟩
 ·obtain ⟨x,h1,h2⟩:=ha j t ht;exact ⟨x,h1,hat x t h2⟩
theorem Col.blk (h:Col one e at_ W base v ts) (hl:0 < ts.length):∃ (g cap:Nat) (cur:Array Value),v = .slice (some ⟨g,0,none⟩) ts.length cap ∧ base ≤ g ∧ g < W.heap.size ∧ ts.length ≤ cap ∧ cap ≤ 9223372036854775807 ∧ W.heap[g]? = some (.cells cur e (0,0)):=by
 obtain ⟨xs,hm,hxl, -⟩:=h;rcases hm.2 with ⟨-,h0⟩ | ⟨g,cap,cur,e,hb,hg,hc,hmx, -⟩
 ·omega
 ·exact ⟨g,cap,cur,by rw [← hxl];exact e,hb,lt_of_heap hg,by omega,by unfold maxLen at hmx;omega,hg⟩
theorem Col.at {g n c:Nat} (h:Col one e at_ W base (.slice (some ⟨g,0,none⟩) n c) ts) {j:Nat} {t : τ} (ht:ts[j]? = some t):∃ x,W.cell? ⟨g,j,none⟩ = some (one x) ∧ at_ W x t:=by
 obtain ⟨xs,hm,hxl,ha⟩:=h;obtain ⟨x,h1,h2⟩:=ha j t ht;refine ⟨x,?_,h2⟩
 have hn:n = xs.length:=by
  rcases hm.2 with ⟨e, -⟩ | ⟨g',cap,cur,e, -⟩
  ·cases e
  ·cases e;rfl
 subst hn;have:=World.ownsRow.cells hm (g:=g) rfl j (one x) (by rw [List.getElem?_map,h1];rfl);rwa [add_flat,Nat.zero_add] at this
theorem Col.block (h:Col one e at_ W base v ts):∀ g,v.ownBlock = some g → base ≤ g:=by
 obtain ⟨xs,hm, -⟩:=h;exact hm.block
theorem Col.first (one : α → Value) (e:TypeId) (at_:World → α → τ → Prop) (W:World) (base:Nat) (hb:base ≤ W.heap.size) (x : α) (t : τ) (h:at_ (W.alloc (.cells #[one x] e)) x t):Col one e at_ (W.alloc (.cells #[one x] e)) base (.slice (some ⟨W.heap.size,0,none⟩) 1 1) [t]:=by
 refine ⟨[x],⟨rfl,.inr ⟨W.heap.size,1,#[one x],rfl,hb,World.alloc_heap_new W _,Nat.le_refl _,by unfold maxLen;simp,rfl,rfl⟩⟩,rfl,fun j u hu => ?_⟩
 cases j with
 | zero => simp at hu;subst hu;exact ⟨x,rfl,h⟩
 | succ j => simp at hu
def Grew (W:World) (g:Nat) (W':World):Prop:=W.grownBy W' (some g)
theorem Grew.heap {g:Nat} (h:Grew W g W') {k:Nat} {o:Obj} (hk:W.heap[k]? = some o) (hne:k ≠ g):W'.heap[k]? = some o :=
 (World.grownBy.block h k (lt_of_heap hk) (fun e => by injection e with e;exact hne (by first | exact e | exact e.symm))).trans hk
theorem Grew.below {B g:Nat} {w0:World} (h:Grew W g W') (hb:Below B w0 W) (hB:B ≤ W.heap.size) (hg:B ≤ g):Below B w0 W':=below_grown hb h hB (fun k e => by injection e with e;omega)
theorem Col.push {st:TypeId} {i0:TypeInfo} {z:Value} {bytes g L c:Nat} (hst:Tryz.prog.underlying st = some (.slice e)) (hi:Tryz.prog.info? e = some i0) (hz0:i0.zero = some z) (hz1:i0.size = 1) (hz2:i0.bytes = bytes) (hzs:z.cells.size = 1) (hby:bytes ≤ 24)
  (h:Col one e at_ W base (.slice (some ⟨g,0,none⟩) L c) ts) (hb:base ≤ W.heap.size) (hl:L < 1000000) (x : α) (t : τ) (hx1:(one x).oneCell' = true) (hx:at_ W x t)
  (hat:∀ W',Grew W g W' → ∀ x t,at_ W x t → at_ W' x t) :
  ∃ g' c' W',(Builtin.append_ #[st,st] st #[.slice (some ⟨g,0,none⟩) L c,.slice (some ⟨W.heap.size,0,none⟩) 1 1]).run Tryz.prog (W.alloc (.cells #[one x] e)) = .ok (.slice (some ⟨g',0,none⟩) (L + 1) c') W' ∧
   Col one e at_ W' base (.slice (some ⟨g',0,none⟩) (L + 1) c') (ts ++ [t]) ∧ Grew W g W' ∧ (g' = g ∨ W.heap.size ≤ g') ∧ g' < W'.heap.size:=by
 have hal:=(Below.refl W.heap.size W).alloc (Nat.le_refl _) (.cells #[one x] e);obtain ⟨xs,hm,hxl,ha⟩:=h
 have hL:L = xs.length:=by
  rcases hm.2 with ⟨e, -⟩ | ⟨g',cap,cur,e, -⟩
  ·cases e
  ·cases e;rfl
 subst hL;have hm1:Mine one e (W.alloc (.cells #[one x] e)) base (.slice (some ⟨g,0,none⟩) xs.length c) xs:=hm.stay hal
 obtain ⟨v',W',h1,h2,h3,h4,h5⟩:=run_append_own_at (P:=Tryz.prog) (W.alloc (.cells #[one x] e)) base st st e i0 z 1 bytes hst hi hz0 hz1 hz2 hzs (by omega)
  (.slice (some ⟨g,0,none⟩) xs.length c) xs.length (xs.map one) hm1 ⟨W.heap.size,0,none⟩ 1 1 [one x] rfl
  (fun j u hu => by
   rw [add_flat,Nat.zero_add];have e1:(W.alloc (.cells #[one x] e)).heap[W.heap.size]? = some (.cells #[one x] e (0,0)):=new_at rfl;unfold World.cell?;rw [e1];simpa using hu) (by intro u hu;simp at hu;subst hu;exact hx1) (by unfold maxLen;omega) (by have:(xs.length + 1) * bytes ≤ 1000000 * 24:=Nat.mul_le_mul (by omega) hby;omega) (Nat.le_trans hb hal.size)
 have hg:Grew W g W':=by
  have hgs:g < W.heap.size:=by
   rcases hm.2 with ⟨e, -⟩ | ⟨g',cap,cur,e, -,hh, -⟩
   ·cases e
   ·cases e;exact lt_of_heap hh
  exact ⟨h3.os.trans hal.os,h3.tape.trans hal.tape,h3.output.trans hal.output,Nat.le_trans hal.size h3.size,fun k hk hne => (h3.block k (by have:=hal.size;omega) hne).trans (hal.block k hk)⟩
 have hM:Mine one e W' base v' (xs ++ [x]):=by
  unfold Mine;rw [List.length_append,List.map_append];exact h2
 have hC:Col one e at_ W' base v' (ts ++ [t]):=by
  refine ⟨xs ++ [x],hM,by simp [hxl],fun j u hu => ?_⟩;by_cases hj:j < ts.length
  ·rw [List.getElem?_append_left hj] at hu;obtain ⟨y,k1,k2⟩:=ha j u hu;exact ⟨y,by rw [List.getElem?_append_left (by omega)];exact k1,hat W' hg y u k2⟩
  ·have h9:=(List.getElem?_eq_some_iff.1 hu).1;simp at h9;have ej:j = ts.length:=by omega
   subst ej;rw [List.getElem?_append_right (Nat.le_refl _)] at hu;simp at hu;subst hu;exact ⟨x,by rw [← hxl,List.getElem?_append_right (Nat.le_refl _)];simp,hat W' hg x t hx⟩
 obtain ⟨g',c',cur,e', -,hlt, -⟩:=hC.blk (by simp);have el:(ts ++ [t]).length = xs.length + 1:=by simp [hxl]
 rw [el] at e';subst e';refine ⟨g',c',W',h1,hC,hg,?_,hlt⟩;rcases h5 with h5 | h5
 ·simp only [Value.ownBlock,Option.some.injEq] at h5;exact .inl h5
 ·simp only [Value.ownBlock,Option.some.injEq] at h5;have:=hal.size;exact .inr (by omega)
end
end Go.Proofs.YtbpbadolgmbhnaaGreat
namespace Go.Proofs.YtbpbadolgmbhnaaGreat
open Go.Sort Go.RowKit
abbrev Rr:=List (Int × Int)
def oI (x:Int × Int):Option Rr → Option Rr
 | none => none
 | some l => some (srt (x :: l))
def eI:Option Rr → Int
 | none => 22
 | some _ => 0
def oM:Option Rr → Option Rr → Option Rr
 | some l,some m => some (srt (l ++ m))
 | _,_ => none
def eM:Option Rr → Option Rr → Int
 | some _,some _ => 0
 | _,_ => 22
def oP:Option Rr → Option Rr
 | some (_ :: r) => some r
 | _ => none
def eP:Option Rr → Int
 | none => 22
 | some [] => 23
 | some (_ :: _) => 0
def mN:Option Rr → Int × Int
 | none => (0,0)
 | some l => hd l
def sz:Option Rr → Nat
 | none => 0
 | some l => l.length
theorem sz_oI (x:Int × Int) (o:Option Rr):sz (oI x o) ≤ sz o + 1:=by
 cases o with
 | none => simp [oI,sz]
 | some l => simp [oI,sz,srt_length]
theorem sz_oM (o p:Option Rr):sz (oM o p) ≤ sz o + sz p:=by
 cases o <;> cases p <;> simp [oM,sz,srt_length]
theorem sz_oP (o:Option Rr):sz (oP o) ≤ sz o:=by
 match o with
 | none => simp [oP,sz]
 | some [] => simp [oP,sz]
 | some (_ :: r) => simp [oP,sz]
def CA (T:TypeId) (At:World → Value → Rr → Prop) (W:World) (u:Value):Option Rr → Prop
 | none => u = .nilIface
 | some l => ∃ v,u = .iface T v ∧ At W v l
theorem st_new {W:World} {p u:Value} {t:TypeId} (hu:u.oneCell' = true):(store ⟨W.heap.size,0,none⟩ u).run Tryz.prog (W.alloc (.cells #[p] t)) = .ok () (W.alloc (.cells #[u] t)):=by
 have h:=heap_alloc_new W (.cells #[p] t);rw [run_store _ _ _ _ _ hu,one_cell h];simp only [one_thaw h,Bool.false_eq_true,if_false];congr 1
 unfold World.setCell World.alloc;congr 1
 apply Array.ext
 ·simp
 ·intro i h1 h2;rw [Array.getElem_modify];by_cases e:W.heap.size = i
  ·subst e;simp
  ·have hl:i < W.heap.size:=by simp at h2;omega
   rw [if_neg e,Array.getElem_push_lt hl,Array.getElem_push_lt hl]
theorem st_put {W:World} {a:Nat} {p u:Value} {t:TypeId} (hu:u.oneCell' = true) (h:W.heap[a]? = some (.cells #[p] t (0,0))):(store ⟨a,0,none⟩ u).run Tryz.prog W = .ok () (W.setCell ⟨a,0,none⟩ u):=by
 rw [run_store _ _ _ _ _ hu,one_cell h];simp only [one_thaw h,Bool.false_eq_true,if_false]
theorem meldZs (T:TypeId) (v2:Value) (w:World):Calls Tryz.prog 13 #[.agg #[.nilIface],.pointer none,.agg #[.iface T v2]] w fun e w' => e = .returned (.tuple #[.agg #[.nilIface],.int .i64 22]) ∧ Below w.heap.size w w':=by
 have hb1:Below w.heap.size w (((w.alloc (.cells #[.nilIface] 30)).alloc (.cells #[.iface T v2] 30)).alloc (.cells #[.nilIface] 30)):=((bqA _).alloc (by simp) _).alloc (by simp only [World.size_alloc];omega) _;go_enter Tryz.func13,Tryz.ntmps13
 go_wp2_with fail
 refine bodyPost_ret (v := .tuple #[.agg #[.nilIface],.int .i64 22]) (by simp [results,Tryz.results13,go_sem]) rfl ⟨rfl,hb1⟩
section
variable {k:Int} {T:TypeId} {fI fM fN fP fS:FuncId} {At:World → Value → Rr → Prop} {W W':World} {u:Value} {o:Option Rr}
theorem CA.one (h:CA T At W u o):u.oneCell' = true:=by
 cases o with
 | none => obtain rfl:u = .nilIface:=h;rfl
 | some l => obtain ⟨v,rfl, -⟩:=h;rfl
theorem CA.stay (K:KindC k T fI fM fN fP fS At) (h:CA T At W u o) (hb:Below W.heap.size W W'):CA T At W' u o:=by
 cases o with
 | none => exact h
 | some l => obtain ⟨v,rfl,ha⟩:=h;exact ⟨v,rfl,K.stay ha hb⟩
theorem CA.keep (K:KindC k T fI fM fN fP fS At) (h:CA T At W u o) (hk:Kpt NH W W') (hs:W.heap.size ≤ W'.heap.size):CA T At W' u o:=by
 cases o with
 | none => exact h
 | some l => obtain ⟨v,rfl,ha⟩:=h;exact ⟨v,rfl,K.keep ha hk hs⟩
def GO (T:TypeId) (At:World → Value → Rr → Prop) (o:Option Rr) (z:Int) (w:World) (e:Ending) (w':World):Prop :=
 ∃ u',e = .returned (.tuple #[.agg #[u'],.int .i64 z]) ∧ u'.oneCell' = true ∧ CA T At w' u' o ∧ Below w.heap.size w w'
theorem insO (K:KindC k T fI fM fN fP fS At) (u:Value) (o:Option Rr) (x:Int × Int) (w:World) (h:CA T At w u o) (hn:sz o < 16777216) (hx:in64 x.1 ∧ in64 x.2) :
  Calls Tryz.prog 11 #[.agg #[u],.pointer none,el x] w (GO T At (oI x o) (eI o) w):=by
 cases o with
 | none => obtain rfl:u = .nilIface:=h;exact (insZ x w).mono fun e w' ⟨he,hb⟩ => ⟨_,he,rfl,rfl,hb⟩
 | some l => obtain ⟨v,rfl,ha⟩:=h;exact (insH K v l x w ha hn hx).mono fun e w' ⟨v',he,ha',hb⟩ => ⟨_,he,rfl,⟨v',rfl,ha'⟩,hb⟩
theorem meldO (K:KindC k T fI fM fN fP fS At) (u u2:Value) (o o2:Option Rr) (w:World) (h:CA T At w u o) (h2:CA T At w u2 o2) (hn:sz o + sz o2 < 16777216) :
  Calls Tryz.prog 13 #[.agg #[u],.pointer none,.agg #[u2]] w (GO T At (oM o o2) (eM o o2) w):=by
 cases o with
 | none =>
  obtain rfl:u = .nilIface:=h
  cases o2 with
  | none => obtain rfl:u2 = .nilIface:=h2;exact (meldZ w).mono fun e w' ⟨he,hb⟩ => ⟨_,he,rfl,rfl,hb⟩
  | some l2 => obtain ⟨v2,rfl, -⟩:=h2;exact (meldZs T v2 w).mono fun e w' ⟨he,hb⟩ => ⟨_,he,rfl,rfl,hb⟩
 | some l =>
  obtain ⟨v,rfl,ha⟩:=h
  cases o2 with
  | none => obtain rfl:u2 = .nilIface:=h2;exact (meldNoH K v l w ha).mono fun e w' ⟨he,hb⟩ => ⟨_,he,rfl,rfl,hb⟩
  | some l2 => obtain ⟨v2,rfl,ha2⟩:=h2;exact (meldH K v v2 l l2 w ha ha2 hn).mono fun e w' ⟨v',he,ha',hb⟩ => ⟨_,he,rfl,⟨v',rfl,ha'⟩,hb⟩
theorem popO (K:KindC k T fI fM fN fP fS At) (u:Value) (o:Option Rr) (w:World) (h:CA T At w u o) (hn:sz o < 16777216) :
  Calls Tryz.prog 15 #[.agg #[u],.pointer none] w (GO T At (oP o) (eP o) w):=by
 match o,h with
 | none,h => obtain rfl:u = .nilIface:=h;exact (popZ w).mono fun e w' ⟨he,hb⟩ => ⟨_,he,rfl,rfl,hb⟩
 | some [],h => obtain ⟨v,rfl,ha⟩:=h;exact (popNoH K v w ha).mono fun e w' ⟨he,hb⟩ => ⟨_,he,rfl,rfl,hb⟩
 | some (y :: r),h => obtain ⟨v,rfl,ha⟩:=h;exact (popH K v (y :: r) w ha hn (by simp)).mono fun e w' ⟨v',he,ha',hb⟩ => ⟨_,he,rfl,⟨v',rfl,ha'⟩,hb⟩
theorem minO (K:KindC k T fI fM fN fP fS At) (u:Value) (o:Option Rr) (w:World) (h:CA T At w u o) :
  Calls Tryz.prog 20 #[.agg #[u],.pointer none] w fun e w' => e = .returned (.tuple #[el (mN o),.int .i64 (eP o)]) ∧ Below w.heap.size w w':=by
 match o,h with
 | none,h => obtain rfl:u = .nilIface:=h;exact minZ w
 | some [],h => obtain ⟨v,rfl,ha⟩:=h;exact minNoH K v w ha
 | some (y :: r),h => obtain ⟨v,rfl,ha⟩:=h;exact minH K v (y :: r) w ha (by simp)
theorem sizeO (K:KindC k T fI fM fN fP fS At) (u:Value) (o:Option Rr) (w:World) (h:CA T At w u o) :
  Calls Tryz.prog 23 #[.agg #[u]] w fun e w' => e = .returned (.int .i64 (sz o:Nat)) ∧ Below w.heap.size w w':=by
 cases o with
 | none => obtain rfl:u = .nilIface:=h;exact sizeZ w
 | some l => obtain ⟨v,rfl,ha⟩:=h;exact sizeH K v l w ha
theorem ofO (K:KindC k T fI fM fN fP fS At) (A:Option Addr) (xs:Rr) (cap:Nat) (w:World) (hr:Row w A xs) (hn:xs.length < 16777216) (hf:fits xs) :
  Calls Tryz.prog 17 #[.pointer none,.int .i64 k,.slice A xs.length cap] w (GO T At (some (srt xs)) 0 w) :=
 (K.of A xs cap w hr hn hf).mono fun _ _ ⟨v',he,ha,hb⟩ => ⟨_,he,rfl,⟨v',rfl,ha⟩,hb⟩
abbrev HC (T:TypeId) (At:World → Value → Rr → Prop) (W:World) (base:Nat) (v:Value) (ts:List (Option Rr)):Prop :=
 Col (fun u:Value => u) 30 (fun W u o => CA T At W u o ∧ sz o ≤ 101) W base v ts
variable {base:Nat} {v:Value} {ts:List (Option Rr)}
theorem HC.stay (K:KindC k T fI fM fN fP fS At) (h:HC T At W base v ts) (hb:Below W.heap.size W W'):HC T At W' base v ts :=
 h.keep (fun _ _ _ hg => hb.block _ (lt_of_heap hg)) (fun _ _ ht => ⟨ht.1.stay K hb,ht.2⟩)
theorem HC.put (K:KindC k T fI fM fN fP fS At) {g n c b:Nat} {p:Value} (h:HC T At W base (.slice (some ⟨g,0,none⟩) n c) ts) (hv:W.heap[b]? = some (.cells #[p] 30 (0,0))) (hne:b ≠ g) (u':Value):HC T At (W.setCell ⟨b,0,none⟩ u') base (.slice (some ⟨g,0,none⟩) n c) ts :=
 h.keep (fun g' _ e _ => by simp only [Value.ownBlock,Option.some.injEq] at e;subst e;exact heap_other _ _ (fun e => hne e.symm)) (fun _ _ ht => ⟨ht.1.keep K (Kpt.set hv (fun h => h.1 rfl) 0 u') (by simp [World.setCell]),ht.2⟩)
theorem CA.grew (K:KindC k T fI fM fN fP fS At) {g:Nat} {cur:Array Value} (h:Grew W g W') (hs:W.heap.size ≤ W'.heap.size) (hg:W.heap[g]? = some (.cells cur 30 (0,0))) (ht:CA T At W u o):CA T At W' u o :=
 ht.keep K (Kpt.grown h (fun k e cs t' hk => by injection e with e;subst e;rw [hg] at hk;cases hk;exact fun h => h.1 rfl)) hs
theorem HC.grew (K:KindC k T fI fM fN fP fS At) {g g2 n c:Nat} {cur:Array Value} (h:Grew W g W') (hs:W.heap.size ≤ W'.heap.size) (hg:W.heap[g]? = some (.cells cur 30 (0,0))) (hne:g2 ≠ g) (hc:HC T At W base (.slice (some ⟨g2,0,none⟩) n c) ts):HC T At W' base (.slice (some ⟨g2,0,none⟩) n c) ts :=
 hc.keep (fun g' _ e hg' => by simp only [Value.ownBlock,Option.some.injEq] at e;subst e;exact (h.heap hg' hne).trans hg'.symm) (fun _ _ ht => ⟨ht.1.grew K h hs hg,ht.2⟩)
theorem infoHp:(Tryz.prog.info? 30).map (fun i => (i.zero,i.size,i.bytes)) = some (some (.agg #[.nilIface]),1,16):=by kernel_rfl
theorem HC.push (K:KindC k T fI fM fN fP fS At) {g L c:Nat} (h:HC T At W base (.slice (some ⟨g,0,none⟩) L c) ts) (hb:base ≤ W.heap.size) (hl:L < 1000000) (ht:CA T At W u o) (hz:sz o ≤ 101) :
  ∃ g' c' W',(Builtin.append_ #[31, 31] 31 #[.slice (some ⟨g,0,none⟩) L c,.slice (some ⟨W.heap.size,0,none⟩) 1 1]).run Tryz.prog (W.alloc (.cells #[u] 30)) = .ok (.slice (some ⟨g',0,none⟩) (L + 1) c') W' ∧
   HC T At W' base (.slice (some ⟨g',0,none⟩) (L + 1) c') (ts ++ [o]) ∧ Grew W g W' ∧ (g' = g ∨ W.heap.size ≤ g') ∧ g' < W'.heap.size ∧ ∃ cur,W.heap[g]? = some (.cells cur 30 (0,0)):=by
 obtain ⟨i0,hi,hz0,hz1,hz2⟩:=info_parts infoHp
 have hown:∃ cur,W.heap[g]? = some (.cells cur 30 (0,0)):=by
  obtain ⟨xs,hm, -⟩:=h;rcases hm.2 with ⟨e, -⟩ | ⟨g',cap,cur,e, -,hg, -⟩
  ·cases e
  ·cases e;exact ⟨cur,hg⟩
 obtain ⟨cur,hg⟩:=hown;obtain ⟨g',c',W',h1,h2,h3,h4,h5⟩:=Col.push Tryz.underlying31 hi hz0 hz1 hz2 rfl (by omega) h hb hl u o ht.one ⟨ht,hz⟩ (fun W' hG x t' hx => ⟨hx.1.grew K hG (World.grownBy.size hG) hg,hx.2⟩);exact ⟨g',c',W',h1,h2,h3,h4,h5,cur,hg⟩
end
end Go.Proofs.YtbpbadolgmbhnaaGreat
namespace Go.Proofs.YtbpbadolgmbhnaaGreat
open Go.ChangeShapes Go.WideShapes Go.ChangeAt Go.RowKit Go.Deep Go.Joins Go.Sort
structure ActH where
 k:Nat
 a:Nat
 b:Nat
 d:Int
 x:Int × Int
 A:Option Addr
 l:List (Int × Int)
 c:Nat
deriving Inhabited
def ActH.ok (y:ActH):Prop:=y.k < 256 ∧ y.a < 256 ∧ y.b < 256 ∧ fits [y.x] ∧ fits y.l
def ActRowH (w:World) (A:Option Addr) (n:Nat) (X:Nat → ActH):Prop :=
 0 < n → ∃ b o,A = some ⟨b,o,none⟩ ∧ ∀ i,i < n → (w.cell? ⟨b,o + i * 7,none⟩ = some (.int .u8 (X i).k) ∧ w.cell? ⟨b,o + i * 7 + 1,none⟩ = some (.int .u8 (X i).a) ∧
  w.cell? ⟨b,o + i * 7 + 2,none⟩ = some (.int .u8 (X i).b) ∧ w.cell? ⟨b,o + i * 7 + 3,none⟩ = some (.int .i64 (X i).d) ∧ w.cell? ⟨b,o + i * 7 + 4,none⟩ = some (.int .i64 (X i).x.1) ∧ w.cell? ⟨b,o + i * 7 + 5,none⟩ = some (.int .i64 (X i).x.2) ∧
  w.cell? ⟨b,o + i * 7 + 6,none⟩ = some (.slice (X i).A (X i).l.length (X i).c)) ∧ Row w (X i).A (X i).l
section
variable {H:Type} {enc:TypeId × Value → H} {w:World} {base:Nat} {held:Bool}
theorem rows_opens (fuel:Nat) (cs:List Value) (x:DataW H × List MemPlace) (hf:DataW.trod enc Tryz.prog w base (fun _ => true) held fuel 52 cs = some x) :
  ∃ (A:Option Addr) (xs:List (Int × Int)) (c:Nat),cs = [.slice A xs.length c] ∧ Row w A xs ∧ xs.length ≤ c ∧ c ≤ 9223372036854775807 ∧ (A = none → c = 0) ∧
   ∀ e ∈ xs,(-9223372036854775808 ≤ e.1 ∧ e.1 ≤ 9223372036854775807) ∧ (-9223372036854775808 ≤ e.2 ∧ e.2 ≤ 9223372036854775807):=by
 have hs:=Tryz.underlying33;rcases open_slice_pairs (enc:=enc) (w:=w) (base:=base) (held:=held) Tryz.underlying52 hs cellsElem (by kernel_rfl) (by kernel_rfl) (by kernel_rfl) (by kernel_rfl) hf with ⟨hcs, -⟩ | ⟨a,len,cap,m,n,V0,V1,D0,D1,P0,P1,hcs, -,hlc,hcm,hm, -,hall⟩
 ·rw [hcs];exact ⟨none,[],0,rfl,Row.nil _ _,Nat.le_refl _,by omega,fun _ => rfl,by simp⟩
 ·rw [hcs];have hlm:len ≤ m:=by rw [hm];simp;exact hlc
  have hel:∀ i,i < len → V0 i = .int .i64 (numV (V0 i)) ∧ V1 i = .int .i64 (numV (V1 i)) ∧ (-9223372036854775808 ≤ numV (V0 i) ∧ numV (V0 i) ≤ 9223372036854775807) ∧ (-9223372036854775808 ≤ numV (V1 i) ∧ numV (V1 i) ≤ 9223372036854775807):=by
   intro i hi;obtain ⟨-, -,t0,t1⟩:=hall i (by omega);obtain ⟨x,ex, -,wx⟩:=DataW.trod_int Tryz.underlying2 t0;obtain ⟨y,ey, -,wy⟩:=DataW.trod_int Tryz.underlying2 t1;injection ex with ex
   injection ey with ey
   rw [ex,ey];exact ⟨rfl,rfl,in_of_wf wx,in_of_wf wy⟩
  refine ⟨some a,(List.range len).map fun i => (numV (V0 i),numV (V1 i)),cap,by simp,?_,by simpa using hlc,by unfold maxLen at hcm;omega,(fun e => by cases e),?_⟩
  ·intro hpos;have hpos':0 < len:=by simpa using hpos
   have h0:=(hall 0 (by omega)).1;have ea:a.add (0 * 2) = a:=by unfold Addr.add;simp
   rw [ea] at h0;have ha:=plain_of_cell h0;refine ⟨a.block,a.off,by rw [← ha],fun j v hj => ?_⟩
   have hjl:j < len * 2:=by
    have h1:=(List.getElem?_eq_some_iff.1 hj).1;rw [cellsE_length] at h1;simpa using h1
   have hi:j / 2 < len:=by omega
   have hc:=cellsE_at ((List.range len).map fun i => (numV (V0 i),numV (V1 i))) (j / 2) (by simpa using hi);obtain ⟨q0,q1, -, -⟩:=hall (j / 2) (by omega);obtain ⟨n0,n1, -, -⟩:=hel (j / 2) hi;rw [ha,add_plain] at q0 q1;simp only [List.getElem_map,List.getElem_range] at hc;rcases Nat.mod_two_eq_zero_or_one j with hz | hz
   ·have ej:j / 2 * 2 = j:=by omega
    rw [ej] at hc q0;have:=hc.1.symm.trans hj;injection this with this
    rw [← this,← n0];exact q0
   ·have ej:j / 2 * 2 + 1 = j:=by omega
    rw [ej] at hc q1;have:=hc.2.symm.trans hj;injection this with this
    rw [← this,← n1];exact q1
  ·intro e he;simp only [List.mem_map,List.mem_range] at he;obtain ⟨i,hi,rfl⟩:=he;exact ⟨(hel i hi).2.2.1,(hel i hi).2.2.2⟩
theorem cellsI64:Tryz.prog.cellsOf 2 = 1:=by kernel_rfl
theorem cellsInt:Tryz.prog.cellsOf 3 = 1:=by kernel_rfl
theorem cellsByte:Tryz.prog.cellsOf 5 = 1:=by kernel_rfl
theorem cellsRow:Tryz.prog.cellsOf 52 = 1:=by kernel_rfl
theorem cellsAct:Tryz.prog.cellsOf 54 = 7:=by kernel_rfl
theorem act_opens (fuel:Nat) (cs:List Value) (x:DataW H × List MemPlace) (hl:cs.length = 7) (h:DataW.trod enc Tryz.prog w base (fun _ => true) held fuel 54 cs = some x) :
  ∃ y:ActH,cs = [.int .u8 y.k,.int .u8 y.a,.int .u8 y.b,.int .i64 y.d,.int .i64 y.x.1,.int .i64 y.x.2,.slice y.A y.l.length y.c] ∧ y.ok ∧ Row w y.A y.l:=by
 match cs,hl with
 | [v0,v1,v2,v3,v4,v5,v6],_ =>
 obtain ⟨xs,n, -,rfl, -,hlen,hf⟩:=DataW.trod_struct Tryz.underlying54 h;match xs,hlen with
 | [y0,y1,y2,y3,y4,y5],_ =>
 have h0:=hf 0 _ rfl;have h1:=hf 1 _ rfl;have h2:=hf 2 _ rfl;have h3:=hf 3 _ rfl;have h4:=hf 4 _ rfl;have h5:=hf 5 _ rfl;simp [cellsElem,cellsByte,cellsRow,cellsInt] at h0 h1 h2 h3 h4 h5;obtain ⟨z0,z1,n0, -, -,k0,k1⟩:=trod_struct2 Tryz.underlying33 h4;simp [cellsI64] at k0 k1;obtain ⟨p,e0, -,w0⟩:=DataW.trod_int Tryz.underlying5 h0;obtain ⟨q,e1, -,w1⟩:=DataW.trod_int Tryz.underlying5 h1;obtain ⟨r,e2, -,w2⟩:=DataW.trod_int Tryz.underlying5 h2;obtain ⟨kd,e6, -,w6⟩:=DataW.trod_int Tryz.underlying3 h3;obtain ⟨s,e3, -,w3⟩:=DataW.trod_int Tryz.underlying2 k0;obtain ⟨z,e4, -,w4⟩:=DataW.trod_int Tryz.underlying2 k1;obtain ⟨Al,l,cl,e5,hr5, -, -, -,hf5⟩:=rows_opens _ _ _ h5;obtain ⟨p,rfl,hp⟩:=byte_of_wf w0;obtain ⟨q,rfl,hq⟩:=byte_of_wf w1;obtain ⟨r,rfl,hr⟩:=byte_of_wf w2;have hs:=in_of_wf w3;have hz:=in_of_wf w4;injection e0 with e0
 injection e1 with e1
 injection e2 with e2
 injection e3 with e3
 injection e4 with e4
 injection e5 with e5
 injection e6 with e6
 subst e0 e1 e2 e3 e4 e5 e6;exact ⟨⟨p,q,r,kd,(s,z),Al,l,cl⟩,rfl,⟨hp,hq,hr,fun e he => by simp at he;subst he;exact ⟨hs,hz⟩,hf5⟩,hr5⟩
theorem open_acts {r:Reach} {b0:Nat} {v:Value} {d:DataW H} {p:List MemPlace} (hv:Value.okWide Tryz.prog w r b0 22 v) (h:DataW.Trod enc Tryz.prog w base (fun _ => true) held 22 v d p) :
  ∃ (A:Option Addr) (n c:Nat) (X:Nat → ActH),v = .slice A n c ∧ ActRowH w A n X ∧ n ≤ 9223372036854775807 ∧ ∀ i,i < n → (X i).ok:=by
 obtain ⟨A,n,c,V,rfl,hr,hnc,hc, -,hg⟩:=open_flat 7 (by omega) Tryz.underlying22 cellsAct (fun cs => ∃ y:ActH,cs = [.int .u8 y.k,.int .u8 y.a,.int .u8 y.b,.int .i64 y.d,.int .i64 y.x.1,.int .i64 y.x.2,.slice y.A y.l.length y.c] ∧ y.ok ∧ Row w y.A y.l) (fun fuel cs x hl h => act_opens fuel cs x hl h) hv h;obtain ⟨X,hX⟩:=choose_lt hg;refine ⟨A,n,c,X,rfl,fun hpos => ?_,by omega,fun i hi => (hX i hi).2.1⟩;obtain ⟨b,o,e,hcell⟩:=hr hpos;refine ⟨b,o,e,fun i hi => ⟨?_,(hX i hi).2.2⟩⟩;have hz:=(hcell i hi).2;rw [(hX i hi).1] at hz;exact ⟨hz 0 _ rfl,hz 1 _ rfl,hz 2 _ rfl,hz 3 _ rfl,hz 4 _ rfl,hz 5 _ rfl,hz 6 _ rfl⟩
end
def fewB (n:Nat) (X:Nat → ActH):Bool:=(List.range n).all (fun i => decide ((X i).l.length ≤ 30)) && decide (n ≤ 30)
theorem fewB_true {n:Nat} {X:Nat → ActH} (h:fewB n X = true):n ≤ 30 ∧ ∀ i,i < n → (X i).l.length ≤ 30:=by
 unfold fewB at h;simp at h;exact ⟨h.2,h.1⟩
theorem fewB_all {n:Nat} {X:Nat → ActH} (h:∀ i,i < n → (X i).l.length ≤ 30):fewB n X = decide ((n:Int) ≤ 30):=by
 unfold fewB;rw [show (List.range n).all (fun i => decide ((X i).l.length ≤ 30)) = true by simpa using h,Bool.true_and];congr 1
 simp;omega
theorem fewB_big {n j:Nat} {X:Nat → ActH} (hj:j < n) (h:30 < (X j).l.length):fewB n X = false:=by
 unfold fewB;rw [show (List.range n).all (fun i => decide ((X i).l.length ≤ 30)) = false by simp;exact ⟨j,hj,h⟩,Bool.false_and]
theorem few_any (A:Option Addr) (n c:Nat) (X:Nat → ActH) (w0 w:World) (hr:ActRowH w0 A n X) (hn:n ≤ 9223372036854775807) (hb:Below w0.heap.size w0 w) :
  Calls Tryz.prog 8 #[.slice A n c] w fun e w' => e = .returned (.bool (fewB n X)) ∧ Below w.heap.size w w':=by
 have HR:=hdz (anz hr hb);clear hr hb;go_enter Tryz.func8,Tryz.ntmps8
 go_wp2_with fail
 go_loopg [3] n (fun k i wr => ∃ j:Nat,i = .int .i64 (j:Int) ∧ j + k = n ∧ w = wr ∧ ∀ i,i < j → (X i).l.length ≤ 30)
 case atStart => exact ⟨0,rfl,by omega,rfl,fun i hi => by omega⟩
 case round =>
  obtain ⟨j,rfl,hj,hw,hall⟩:=hrel;subst hw;by_cases hlt:j < n
  ·obtain ⟨b0,o,rfl,hrow⟩:=HR.out.1 (by omega);have hc:=(hrow j hlt).1.2.2.2.2.2.2;have e5:=(HR.out.2.cell (p:=⟨b0,o + j * 7 + 6,none⟩) (block_lt_of_cell hc)).trans hc;have q1:(j:Int) < (n:Int):=by omega
   have q3:decide ((j:Int) < (n:Int)) = true:=by simp;omega
   have HA:=hdz hall;obtain ⟨m,hm⟩:=exq ((X j).l.length);rw [← hm] at e5;have HM:=hdz hm;clear hrow hc hm hall;by_cases hbig:30 < m
   ·have r1:decide ((30:Int) < (m:Int)) = true:=by simp;omega
    have r2:(30:Int) < (m:Int):=by omega
    go_wp2_with fail
    go_ret
    exact ⟨by rw [fewB_big hlt (by rw [← HM.out];exact hbig)];rfl,Below.refl _ _⟩
   ·have r1:decide ((30:Int) < (m:Int)) = false:=by simp;omega
    have r2:¬ (30:Int) < (m:Int):=by omega
    go_wp2_with fail
    go_roundg (n - 1 - j)
    case measure => omega
    case rel => exact ⟨j + 1,by first | rfl | (congr 1;unfold wrap64;omega),by omega,rfl,fun i hi => by by_cases e:i = j;(subst e;have:=HM.out;omega);exact HA.out i (by omega)⟩
  ·have q1:¬ (j:Int) < (n:Int):=by omega
   have q3:decide ((j:Int) < (n:Int)) = false:=by simp;omega
   go_wp2_with fail
   go_ret
   exact ⟨by rw [fewB_all (X:=X) (n:=n) (fun i hi => hall i (by omega))];rfl,Below.refl _ _⟩
theorem few_is (A:Option Addr) (n c:Nat) (X:Nat → ActH) (w0 w:World) (hr:ActRowH w0 A n X) (hn:n ≤ 9223372036854775807) (hb:Below w0.heap.size w0 w) (b:Bool) (h:fewB n X = b) :
  Calls Tryz.prog 8 #[.slice A n c] w fun e w' => e = .returned (.bool b) ∧ Below w.heap.size w w':=by
 subst h;exact few_any A n c X w0 w hr hn hb
end Go.Proofs.YtbpbadolgmbhnaaGreat
namespace Go.Proofs.YtbpbadolgmbhnaaGreat
open Go.Sort Go.RowKit
theorem wp_after {P:Program} {c:Code} {a:Act} {w:World} {Q:Exit → Act → World → Prop} (R:Act → Act → World → Prop) (h1:c.wp P (fun e a' w' => e = .normal ∧ R a a' w') a w) (h2:∀ a' w',R a a' w' → Q .normal a' w'):c.wp P Q a w :=
 Code.wp_mono (fun e a' w' h => by obtain ⟨rfl,hr⟩:=h;exact h2 a' w' hr) h1
structure KS (Ta:TypeId) (Ata:World → Value → Rr → Prop) (Tb:TypeId) (Atb:World → Value → Rr → Prop) (w:World) (bx by_ gu cu gv cv L:Nat) (W:World) (ux uy:Value) (o o2:Option Rr) (ts:List (Option Rr)):Prop where
 bl:Below w.heap.size w W
 x:W.heap[bx]? = some (.cells #[ux] 30 (0,0))
 y:W.heap[by_]? = some (.cells #[uy] 30 (0,0))
 xa:CA Ta Ata W ux o
 ya:CA Tb Atb W uy o2
 u:HC Ta Ata W w.heap.size (.slice (some ⟨gu,0,none⟩) L cu) ts
 v:HC Tb Atb W w.heap.size (.slice (some ⟨gv,0,none⟩) L cv) ts
 ne:bx ≠ by_ ∧ bx ≠ gu ∧ bx ≠ gv ∧ by_ ≠ gu ∧ by_ ≠ gv ∧ gu ≠ gv ∧ w.heap.size ≤ bx ∧ w.heap.size ≤ by_ ∧ w.heap.size ≤ gu ∧ w.heap.size ≤ gv ∧ gu < W.heap.size ∧ gv < W.heap.size
section
variable {ka kb:Int} {Ta Tb:TypeId} {aI aM aN aP aS bI bM bN bP bS:FuncId} {Ata Atb:World → Value → Rr → Prop} {w:World} {bx by_ gu cu gv cv L:Nat} {W W':World} {ux uy:Value} {o o2:Option Rr} {ts:List (Option Rr)}
theorem KS.stay (Ka:KindC ka Ta aI aM aN aP aS Ata) (Kb:KindC kb Tb bI bM bN bP bS Atb) (h:KS Ta Ata Tb Atb w bx by_ gu cu gv cv L W ux uy o o2 ts) (hb:Below W.heap.size W W'):KS Ta Ata Tb Atb w bx by_ gu cu gv cv L W' ux uy o o2 ts :=
 ⟨h.bl.trans (hb.mono h.bl.size),(hb.block _ (lt_of_heap h.x)).trans h.x,(hb.block _ (lt_of_heap h.y)).trans h.y,h.xa.stay Ka hb,h.ya.stay Kb hb,h.u.stay Ka hb,h.v.stay Kb hb,by have:=h.ne;have:=hb.size;omega⟩
theorem KS.putX (Ka:KindC ka Ta aI aM aN aP aS Ata) (Kb:KindC kb Tb bI bM bN bP bS Atb) (h:KS Ta Ata Tb Atb w bx by_ gu cu gv cv L W ux uy o o2 ts) {u:Value} {p:Option Rr} (hu:CA Ta Ata W u p):KS Ta Ata Tb Atb w bx by_ gu cu gv cv L (W.setCell ⟨bx,0,none⟩ u) u uy p o2 ts :=
 have hk:=Kpt.set (N:=NH) h.x (fun h => h.1 rfl) 0 u;have hs:W.heap.size ≤ (W.setCell ⟨bx,0,none⟩ u).heap.size:=by simp [World.setCell]
 ⟨h.bl.setCell (by have:=h.ne;show w.heap.size ≤ bx;omega) u,heap_put1 h.x u,var_other h.y (by have:=h.ne;omega) u,hu.keep Ka hk hs,h.ya.keep Kb hk hs,h.u.put Ka h.x (by have:=h.ne;omega) u,h.v.put Kb h.x (by have:=h.ne;omega) u,by have:=h.ne;omega⟩
theorem KS.putY (Ka:KindC ka Ta aI aM aN aP aS Ata) (Kb:KindC kb Tb bI bM bN bP bS Atb) (h:KS Ta Ata Tb Atb w bx by_ gu cu gv cv L W ux uy o o2 ts) {u:Value} {p:Option Rr} (hu:CA Tb Atb W u p):KS Ta Ata Tb Atb w bx by_ gu cu gv cv L (W.setCell ⟨by_,0,none⟩ u) ux u o p ts :=
 have hk:=Kpt.set (N:=NH) h.y (fun h => h.1 rfl) 0 u;have hs:W.heap.size ≤ (W.setCell ⟨by_,0,none⟩ u).heap.size:=by simp [World.setCell]
 ⟨h.bl.setCell (by have:=h.ne;show w.heap.size ≤ by_;omega) u,var_other h.x (by have:=h.ne;omega) u,heap_put1 h.y u,h.xa.keep Ka hk hs,hu.keep Kb hk hs,h.u.put Ka h.y (by have:=h.ne;omega) u,h.v.put Kb h.y (by have:=h.ne;omega) u,by have:=h.ne;omega⟩
theorem KS.grewU (Ka:KindC ka Ta aI aM aN aP aS Ata) (Kb:KindC kb Tb bI bM bN bP bS Atb) (h:KS Ta Ata Tb Atb w bx by_ gu cu gv cv L W ux uy o o ts) (hl:L < 1000000) (hz:sz o ≤ 101) :
  ∃ g1 c1 W1 g2 c2 W2,(Builtin.append_ #[31, 31] 31 #[.slice (some ⟨gu,0,none⟩) L cu,.slice (some ⟨W.heap.size,0,none⟩) 1 1]).run Tryz.prog (W.alloc (.cells #[ux] 30)) = .ok (.slice (some ⟨g1,0,none⟩) (L + 1) c1) W1 ∧ W1.cell? ⟨by_,0,none⟩ = some uy ∧
   (Builtin.append_ #[31, 31] 31 #[.slice (some ⟨gv,0,none⟩) L cv,.slice (some ⟨W1.heap.size,0,none⟩) 1 1]).run Tryz.prog (W1.alloc (.cells #[uy] 30)) = .ok (.slice (some ⟨g2,0,none⟩) (L + 1) c2) W2 ∧
   KS Ta Ata Tb Atb w bx by_ g1 c1 g2 c2 (L + 1) W2 ux uy o o (ts ++ [o]):=by
 have hne:=h.ne;obtain ⟨g1,c1,W1,r1,U1,G1,o1,l1,cur1,hc1⟩:=h.u.push Ka h.bl.size hl h.xa hz;have s1:W.heap.size ≤ W1.heap.size:=World.grownBy.size G1;have V1:=h.v.grew Kb G1 s1 hc1 (by omega);have B1:=G1.below h.bl h.bl.size hne.2.2.2.2.2.2.2.2.1;have Y1:=G1.heap h.y (by omega);have X1:=G1.heap h.x (by omega);obtain ⟨g2,c2,W2,r2,V2,G2,o2,l2,cur2,hc2⟩:=V1.push Kb B1.size hl (h.ya.grew Kb G1 s1 hc1) hz;have s2:W1.heap.size ≤ W2.heap.size:=World.grownBy.size G2;have hbx:=lt_of_heap h.x;have hby:=lt_of_heap h.y;have n1:gv ≠ g1:=by rcases o1 with e | e <;> omega
 exact ⟨g1,c1,W1,g2,c2,W2,r1,one_cell Y1,r2,G2.below B1 B1.size hne.2.2.2.2.2.2.2.2.2.1,G2.heap X1 (by omega),G2.heap Y1 (by omega),(h.xa.grew Ka G1 s1 hc1).grew Ka G2 s2 hc2,(h.ya.grew Kb G1 s1 hc1).grew Kb G2 s2 hc2,U1.grew Ka G2 s2 hc2 (fun e => n1 e.symm),V2,by rcases o1 with e | e <;> rcases o2 with e' | e' <;> omega⟩
end
theorem kinds_out (A:Option Addr) (n c:Nat) (X:Nat → ActH) (ka kb:Int) (w:World) (hr:ActRowH w A n X) (hn:n ≤ 9223372036854775807) (h:fewB n X = false ∨ (fewB n X = true ∧ (ka < 1 ∨ 6 < ka ∨ kb < 1 ∨ 6 < kb))) :
  Calls Tryz.prog 4 #[.slice A n c,.int .i64 ka,.int .i64 kb] w fun e w' => e = .returned (.bool true) ∧ Below w.heap.size w w':=by
 have H:=hdz (anz hr hn);clear hr hn
 have h':fewB n X = false ∨ (fewB n X = true ∧ ka < 1) ∨ (fewB n X = true ∧ ¬ ka < 1 ∧ 6 < ka) ∨ (fewB n X = true ∧ ¬ ka < 1 ∧ ¬ 6 < ka ∧ kb < 1) ∨ (fewB n X = true ∧ ¬ ka < 1 ∧ ¬ 6 < ka ∧ ¬ kb < 1 ∧ 6 < kb):=by
  rcases h with h | ⟨h,h1⟩
  ·exact .inl h
  ·by_cases a:ka < 1
   ·exact .inr (.inl ⟨h,a⟩)
   ·by_cases b:6 < ka
    ·exact .inr (.inr (.inl ⟨h,a,b⟩))
    ·by_cases c:kb < 1
     ·exact .inr (.inr (.inr (.inl ⟨h,a,b,c⟩)))
     ·exact .inr (.inr (.inr (.inr ⟨h,a,b,c,by omega⟩)))
 clear h;rcases h' with h0 | ⟨h0,h1⟩ | ⟨h0,h1,h2⟩ | ⟨h0,h1,h2,h3⟩ | ⟨h0,h1,h2,h3,h4⟩
 all_goals
  have H0:=hdz h0;clear h0;go_enter Tryz.func4,Tryz.ntmps4
  go_wp2_with fail
  refine (awake_any _).mono ?_;rintro e w1 ⟨rfl,hb⟩;have HB:=hdz hb;clear hb;go_wp2_with fail
  refine (few_is A n c X w _ H.out.1 H.out.2 HB.out _ H0.out).mono ?_;rintro e w2 ⟨rfl,hb⟩;have HB2:=hdz (HB.out.trans (hb.mono HB.out.size));clear hb HB;go_wp2_with fail
  refine bodyPost_ret (v := .bool true) (by simp [results,Tryz.results4,go_sem]) rfl ⟨rfl,HB2.out⟩
theorem kinds_good {ka:Int} {Ta:TypeId} {aI aM aN aP aS:FuncId} {Ata:World → Value → Rr → Prop} (Ka:KindC ka Ta aI aM aN aP aS Ata) {kb:Int} {Tb:TypeId} {bI bM bN bP bS:FuncId} {Atb:World → Value → Rr → Prop} (Kb:KindC kb Tb bI bM bN bP bS Atb) (A:Option Addr) (n c:Nat) (X:Nat → ActH) (w:World) (hr:ActRowH w A n X) (hn:n ≤ 9223372036854775807) (hX:∀ i,i < n → (X i).ok) (hf:fewB n X = true) (hka:1 ≤ ka ∧ ka ≤ 6) (hkb:1 ≤ kb ∧ kb ≤ 6) :
  Calls Tryz.prog 4 #[.slice A n c,.int .i64 ka,.int .i64 kb] w fun e w' => e = .returned (.bool true) ∧ Below w.heap.size w w':=by
 have HB:=hdz (Below.refl w.heap.size w);have HX:=hdz (anz hr (anz hn (anz hX (anz (fewB_true hf) hf))));have a1:¬ ka < 1:=by omega
 have a2:¬ 6 < ka:=by omega
 have b1:¬ kb < 1:=by omega
 have b2:¬ 6 < kb:=by omega
 clear hr hn hX hf hka hkb;go_enter Tryz.func4,Tryz.ntmps4
 go_wp2_with fail
 refine (awake_any _).mono ?_;rintro e w1 ⟨rfl,hb⟩;have HBx:=hdz (HB.out.trans (hb.mono HB.out.size));clear HB hb;go_wp2_with fail
 refine (few_is A n c X w _ HX.out.1 HX.out.2.1 HBx.out _ HX.out.2.2.2.2).mono ?_;rintro e w2 ⟨rfl,hb⟩;have HB:=hdz (HBx.out.trans (hb.mono HBx.out.size));clear HBx hb;go_wp2_with fail
 refine (emptyH Ka _).mono ?_;rintro e w3 ⟨v1,rfl,ha,hb⟩;have HBx:=hdz (HB.out.trans (hb.mono HB.out.size));clear HB hb;have A1:=hdz (ha);clear ha;have HNB:=hdz HBx.out.size;have hb:=(Below.refl w3.heap.size w3).alloc (Nat.le_refl _) (.cells #[.iface Ta v1] 30);have HB:=hdz (HBx.out.trans (hb.mono HBx.out.size));have A1x:=hdz (Ka.stay A1.out hb);clear HBx A1 hb;have VX:=hdz (show (w3.alloc (.cells #[.iface Ta v1] 30)).heap[w3.heap.size]? = some (.cells #[.iface Ta v1] 30 (0,0)) from new_at (by simp));go_wp2_with fail
 generalize w3.alloc (.cells #[.iface Ta v1] 30) = w4 at *;refine (emptyH Kb _).mono ?_;rintro e w5 ⟨v2,rfl,ha,hb⟩;have HBx:=hdz (HB.out.trans (hb.mono HB.out.size));have A1:=hdz (Ka.stay A1x.out hb);have VXx:=hdz ((hb.block _ (lt_of_heap VX.out)).trans VX.out);clear HB A1x VX hb;have A2:=hdz (ha);clear ha;have HN0:=hdz (anz (lt_of_heap VXx.out) HBx.out.size);have hb:=(Below.refl w5.heap.size w5).alloc (Nat.le_refl _) (.cells #[.iface Tb v2] 30);have HB:=hdz (HBx.out.trans (hb.mono HBx.out.size));have A1x:=hdz (Ka.stay A1.out hb);have VX:=hdz ((hb.block _ (lt_of_heap VXx.out)).trans VXx.out);have A2x:=hdz (Kb.stay A2.out hb);clear HBx A1 VXx A2 hb;have VY:=hdz (show (w5.alloc (.cells #[.iface Tb v2] 30)).heap[w5.heap.size]? = some (.cells #[.iface Tb v2] 30 (0,0)) from new_at (by simp));have c_VX:=one_cell VX.out;have HBS:=HB.out;have hb:=(Below.refl (w5.alloc (.cells #[.iface Tb v2] 30)).heap.size (w5.alloc (.cells #[.iface Tb v2] 30))).alloc (Nat.le_refl _) (.cells #[.iface Ta v1] 30);have HBx:=hdz (HB.out.trans (hb.mono HB.out.size));have A1:=hdz (Ka.stay A1x.out hb);have VXx:=hdz ((hb.block _ (lt_of_heap VX.out)).trans VX.out);have A2:=hdz (Kb.stay A2x.out hb);have VYx:=hdz ((hb.block _ (lt_of_heap VY.out)).trans VY.out);clear HB A1x VX A2x VY hb;have HU:=hdz (show HC Ta Ata ((w5.alloc (.cells #[.iface Tb v2] 30)).alloc (.cells #[.iface Ta v1] 30)) w.heap.size (.slice (some ⟨w5.heap.size + 1,0,none⟩) 1 1) [some []] from by have:=Col.first (fun u:Value => u) 30 (fun W u o => CA Ta Ata W u o ∧ sz o ≤ 101) (w5.alloc (.cells #[.iface Tb v2] 30)) w.heap.size HBS.size (.iface Ta v1) (some []) ⟨⟨v1,rfl,A1.out⟩,by simp [sz]⟩;simp only [World.size_alloc] at this;exact this);clear HBS;have c_VY:=one_cell VYx.out;have HBS:=HBx.out;have hb:=(Below.refl ((w5.alloc (.cells #[.iface Tb v2] 30)).alloc (.cells #[.iface Ta v1] 30)).heap.size ((w5.alloc (.cells #[.iface Tb v2] 30)).alloc (.cells #[.iface Ta v1] 30))).alloc (Nat.le_refl _) (.cells #[.iface Tb v2] 30);have HB:=hdz (HBx.out.trans (hb.mono HBx.out.size));have A1x:=hdz (Ka.stay A1.out hb);have VX:=hdz ((hb.block _ (lt_of_heap VXx.out)).trans VXx.out);have A2x:=hdz (Kb.stay A2.out hb);have VY:=hdz ((hb.block _ (lt_of_heap VYx.out)).trans VYx.out);have HUx:=hdz (HU.out.stay Ka hb);clear HBx A1 VXx A2 VYx HU hb;have HV:=hdz (show HC Tb Atb (((w5.alloc (.cells #[.iface Tb v2] 30)).alloc (.cells #[.iface Ta v1] 30)).alloc (.cells #[.iface Tb v2] 30)) w.heap.size (.slice (some ⟨w5.heap.size + 1 + 1,0,none⟩) 1 1) [some []] from by have:=Col.first (fun u:Value => u) 30 (fun W u o => CA Tb Atb W u o ∧ sz o ≤ 101) ((w5.alloc (.cells #[.iface Tb v2] 30)).alloc (.cells #[.iface Ta v1] 30)) w.heap.size HBS.size (.iface Tb v2) (some []) ⟨⟨v2,rfl,A2x.out⟩,by simp [sz]⟩;simp only [World.size_alloc] at this;exact this);clear HBS;go_wp2_with fail
 have HS:=hdz (show KS Ta Ata Tb Atb w (w3.heap.size) (w5.heap.size) (w5.heap.size + 1) 1 (w5.heap.size + 1 + 1) 1 (0 + 1) (((w5.alloc (.cells #[.iface Tb v2] 30)).alloc (.cells #[.iface Ta v1] 30)).alloc (.cells #[.iface Tb v2] 30)) (.iface Ta v1) (.iface Tb v2) (some []) (some []) [some []] from ⟨HB.out,VX.out,VY.out,⟨v1,rfl,A1x.out⟩,⟨v2,rfl,A2x.out⟩,HUx.out,HV.out,by have:=HN0.out;have:=HNB.out;simp only [World.size_alloc];omega⟩);clear c_VX c_VY;generalize ((w5.alloc (.cells #[.iface Tb v2] 30)).alloc (.cells #[.iface Ta v1] 30)).alloc (.cells #[.iface Tb v2] 30) = wS at *;go_loopg [10,12,13,14,15] n (fun k ev fv pv qv iv wr => ∃ (i gu cu gv cv:Nat) (ts:List (Option Rr)) (z:Int) (ux uy:Value) (o o2:Option Rr),ev = .int .i64 z ∧ fv = .int .i64 z ∧ pv = .slice (some ⟨gu,0,none⟩) (i + 1) cu ∧ qv = .slice (some ⟨gv,0,none⟩) (i + 1) cv ∧ iv = .int .i64 (i:Int) ∧ i + k = n ∧ ts.length = i + 1 ∧ KS Ta Ata Tb Atb w (w3.heap.size) (w5.heap.size) gu cu gv cv (i + 1) wr ux uy o o2 ts)
 case atStart => exact ⟨0,_,_,_,_,_,_,_,_,_,_,rfl,rfl,rfl,rfl,rfl,by omega,rfl,HS.out⟩
 case round =>
  clear HB A1x VX A2x VY HUx HV HS HN0 HNB;obtain ⟨i,gu,cu,gv,cv,ts,z,ux,uy,o,o2,rfl,rfl,rfl,rfl,rfl,hk,hts,hks⟩:=hrel;obtain ⟨L,hL⟩:=exq (i + 1);rw [← hL] at hts hks ⊢;have KW:=hdz hks;have HI:=hdz (anz hk (anz hts hL));clear hks hk hts;by_cases hlt:i < n
  ·have hLn:L ≤ 30:=by have:=HX.out.2.2.2.1.1;omega
   have hL1:0 < L:=by omega
   clear hL;obtain ⟨b0,o0,hA0,hrow⟩:=HX.out.1 (by omega);subst hA0;have hok:=HX.out.2.2.1 i hlt;have h30:=HX.out.2.2.2.1.2 i hlt;have hc:=hrow i hlt;obtain ⟨y,hy⟩:=exq (X i);rw [← hy] at hok h30 hc;clear hy hrow;obtain ⟨yk,ya,yb,yd,⟨y1,y2⟩,yA,yl,yc⟩:=y;obtain ⟨q0,q1,q2,q3,q4⟩:=hok;simp only at q0 q1 q2 q3 q4 h30 hc;obtain ⟨nl,hnl⟩:=exq (yl.length);rw [← hnl] at hc h30
   have HAC:=hdz (fun (W:World) (hb:Below w.heap.size w W) => (show W.cell? ⟨b0,o0 + i * 7,none⟩ = some (.int .u8 yk) ∧ W.cell? ⟨b0,o0 + i * 7 + 1,none⟩ = some (.int .u8 ya) ∧ W.cell? ⟨b0,o0 + i * 7 + 2,none⟩ = some (.int .u8 yb) ∧ W.cell? ⟨b0,o0 + i * 7 + 4,none⟩ = some (.int .i64 y1) ∧ W.cell? ⟨b0,o0 + i * 7 + 5,none⟩ = some (.int .i64 y2) ∧ W.cell? ⟨b0,o0 + i * 7 + 6,none⟩ = some (.slice yA nl yc) from by
    have hlt0:b0 < w.heap.size:=block_lt_of_cell hc.1.1;exact ⟨(hb.cell (p:=⟨b0,_,none⟩) hlt0).trans hc.1.1,(hb.cell (p:=⟨b0,_,none⟩) hlt0).trans hc.1.2.1,(hb.cell (p:=⟨b0,_,none⟩) hlt0).trans hc.1.2.2.1,(hb.cell (p:=⟨b0,_,none⟩) hlt0).trans hc.1.2.2.2.2.1,(hb.cell (p:=⟨b0,_,none⟩) hlt0).trans hc.1.2.2.2.2.2.1,(hb.cell (p:=⟨b0,_,none⟩) hlt0).trans hc.1.2.2.2.2.2.2⟩))
   have HY:=hdz (show in64 y1 ∧ in64 y2 from q3 (y1,y2) (by simp));have HL:=hdz (show Row w yA yl ∧ nl = yl.length ∧ nl ≤ 30 ∧ fits yl from ⟨hc.2,hnl,h30,q4⟩);clear hc h30 q3 q4 hnl;obtain ⟨ja,hja⟩:=exq (ya % L);obtain ⟨jb,hjb⟩:=exq (yb % L);have hjaL:ja < L:=by rw [hja];exact Nat.mod_lt _ hL1
   have hjbL:jb < L:=by rw [hjb];exact Nat.mod_lt _ hL1
   have r1:((ya:Int)).tmod (L:Int) = (ja:Int):=by rw [hja];exact (Int.ofNat_tmod ya L).symm
   have r2:((yb:Int)).tmod (L:Int) = (jb:Int):=by rw [hjb];exact (Int.ofNat_tmod yb L).symm
   have z1:((L:Int) == 0) = false:=by simp;omega
   have z2:¬ L = 0:=by omega
   have i0:(0:Int) ≤ (i:Int):=by omega
   have i1:(i:Int) < (n:Int):=by omega
   have i2:decide ((i:Int) < (n:Int)) = true:=by simp;omega
   have k1:(0:Int) ≤ (ja:Int):=by omega
   have k2:(ja:Int) < (L:Int):=by omega
   have k3:(0:Int) ≤ (jb:Int):=by omega
   have k4:(jb:Int) < (L:Int):=by omega
   obtain ⟨oa,hoa⟩:∃ q,ts[ja]? = some q:=⟨_,List.getElem?_eq_getElem (by have:=HI.out;omega)⟩;obtain ⟨ob,hob⟩:∃ q,ts[jb]? = some q:=⟨_,List.getElem?_eq_getElem (by have:=HI.out;omega)⟩;obtain ⟨ua,cua,hua⟩:=Col.at KW.out.u hoa;have K1:=KW.out.putX Ka Kb hua.1;have t1:=st_put hua.1.one KW.out.x;obtain ⟨va,cva,hva⟩:=Col.at K1.v hoa;have K2:=hdz (K1.putY Ka Kb hva.1);have t2:=st_put hva.1.one K1.y;have hac:=HAC.out _ KW.out.bl;obtain ⟨-,e1,e2, -⟩:=hac;have HO:=hdz (anz hob (anz hua.2 hva.2));clear hoa hob hua hva K1 hja hjb KW;go_wp2_with fail
   generalize (wr.setCell ⟨w3.heap.size,0,none⟩ ua).setCell ⟨w5.heap.size,0,none⟩ va = m2 at *;clear cua cva t1 t2 e1 e2 r1 r2 z1 z2;have HA:=hdz (fun (W:World) (hb:Below m2.heap.size m2 W) => (K2.out.stay Ka Kb hb));obtain ⟨ub,cub,hub⟩:=Col.at K2.out.u HO.out.1;have UB:=hdz hub;obtain ⟨sa,hsa⟩:=exq (sz oa);obtain ⟨sb,hsb⟩:=exq (sz ob);have HSZ:=hdz (show sa = sz oa ∧ sb = sz ob ∧ sa ≤ 101 ∧ sb ≤ 101 from ⟨hsa,hsb,by rw [hsa];exact HO.out.2.1,by rw [hsb];exact hub.2⟩);have kx:=fun d os => cell_regrown (one_cell K2.out.x) d os;have kb:=fun d os => cell_regrown cub d os;have HC0:=hdz (fun d os => in_class (w:=m2) (v := .int .i64 (sa:Int)) (fun W hb => by rw [HSZ.out.1];exact sizeO Ka ua oa W (K2.out.xa.stay Ka hb)) d os);have HC1:=hdz (fun d os => in_class (w:=m2) (v := .int .i64 (sb:Int)) (fun W hb => by rw [HSZ.out.2.1];exact sizeO Ka ub ob W (UB.out.1.stay Ka hb)) d os);have ws:IntKind.i64.wrap ((sa:Int) + (sb:Int)) = (sa:Int) + (sb:Int):=by rw [IntKind.wrap_i64];have:=HSZ.out;omega
   clear hub hsa hsb cub;rw [world_self m2];generalize m2.drawn = d0;generalize (#[]:Array Obj) = os0;refine wp_region_class (by kernel_rfl) (by kernel_rfl) ?_;repeat (go_big_quiet_step (first | (with_reducible exact HC0.out _ _) | (with_reducible exact HC1.out _ _) | fail))
   refine wpQuiet_nil ?_;intro _ hw';obtain ⟨⟨dq,osq⟩,hw''⟩:=hw';subst hw'';have K3:=hdz (HA.out _ (below_regrown m2 dq osq));clear kx kb HC0 HC1 HA UB K2;generalize grow (redrawn m2 dq) osq = m3 at *;by_cases hbig:100 < sa + sb
   ·have g2:(100:Int) < (sa:Int) + (sb:Int):=by omega
    have g1:decide ((100:Int) < (sa:Int) + (sb:Int)) = true:=decide_eq_true g2;go_wp2_with fail
    refine bodyPost_ret (v := .bool true) (by simp [results,Tryz.results4,go_sem]) rfl ⟨rfl,K3.out.bl⟩
   ·have g2:¬ (100:Int) < (sa:Int) + (sb:Int):=by omega
    have g1:decide ((100:Int) < (sa:Int) + (sb:Int)) = false:=decide_eq_false g2;have HSS:=hdz (show sa + sb ≤ 100 by omega);have hac:=HAC.out _ K3.out.bl;obtain ⟨e0, -⟩:=hac;clear hbig ws;have hyk:yk = 0 ∨ yk = 1 ∨ yk = 2 ∨ 3 ≤ yk:=by omega
    rcases hyk with hyk | hyk | hyk | hyk
    focus
     subst hyk
     as_aux_lemma =>
      obtain ⟨ot,hot⟩:=exq (oI (y1,y2) oa);obtain ⟨zt,hzt⟩:=exq (eI oa);have HOT:=hdz (show sz ot ≤ 101 by rw [hot];have:=sz_oI (y1,y2) oa;have:=HSS.out;have:=HSZ.out;omega);have HC1:=hdz (fun (W:World) (hb:Below m3.heap.size m3 W) => (show Calls Tryz.prog 11 #[.agg #[ua],.pointer none,.agg #[.int .i64 y1,.int .i64 y2]] W (GO Ta Ata ot zt W) from by rw [hot,hzt];exact insO Ka ua oa (y1,y2) W (K3.out.stay Ka Kb hb).xa (by have:=HSS.out;have:=HSZ.out;omega) HY.out));have HC2:=hdz (fun (W:World) (hb:Below m3.heap.size m3 W) => (show Calls Tryz.prog 11 #[.agg #[va],.pointer none,.agg #[.int .i64 y1,.int .i64 y2]] W (GO Tb Atb ot zt W) from by rw [hot,hzt];exact insO Kb va oa (y1,y2) W (K3.out.stay Ka Kb hb).ya (by have:=HSS.out;have:=HSZ.out;omega) HY.out));have HS1:=hdz (fun (w':World) (hz:Below m3.heap.size m3 w') => (show w'.cell? ⟨w3.heap.size,0,none⟩ = some ua ∧ w'.cell? ⟨b0,o0 + i * 7 + 4,none⟩ = some (.int .i64 y1) ∧ w'.cell? ⟨b0,o0 + i * 7 + 5,none⟩ = some (.int .i64 y2) from ⟨one_cell (K3.out.stay Ka Kb hz).x,(HAC.out _ (K3.out.stay Ka Kb hz).bl).2.2.2.1,(HAC.out _ (K3.out.stay Ka Kb hz).bl).2.2.2.2.1⟩));clear hot hzt;go_wp2_with fail
      clear e0;refine wp_after (R:=fun x x' w' => ∃ (s148 s149 s150 s151 s152 s153 s154 s147 s155 s156 u:Value) (g:Nat),x' = ((((((((((((x.put (some 148) s148).put (some 149) s149).put (some 150) s150).put (some 151) s151).put (some 152) s152).put (some 153) s153).put (some 154) s154).put (some 147) s147).put (some 155) s155).put (some 156) s156).put (some 18) (.pointer (some ⟨g,0,none⟩))).put (some 19) (.int .i64 zt)) ∧ Below m3.heap.size m3 w' ∧ m3.heap.size ≤ g ∧ w'.heap[g]? = some (.cells #[u] 30 (0,0)) ∧ u.oneCell' = true ∧ CA Ta Ata w' u ot) ?_ ?_
      ·have hB:=(Below.refl m3.heap.size m3).drew;refine wp_region_noPanic ?_;refine wp_region_held_drew (S:=fun w' => w'.cell? ⟨w3.heap.size,0,none⟩ = some ua ∧ w'.cell? ⟨b0,o0 + i * 7 + 4,none⟩ = some (.int .i64 y1) ∧ w'.cell? ⟨b0,o0 + i * 7 + 5,none⟩ = some (.int .i64 y2)) (by kernel_rfl) (HS1.out _ hB) (fun hH => ?_);generalize m3.drew = wd at *;refine tk 0 hH ?_;try simp only [bkz]
       refine tk 1 hH ?_;try simp only [bkz]
       refine tk 2 hH ?_;try simp only [bkz]
       refine tk 3 hH ?_;try simp only [bkz]
       refine tk 4 hH ?_;try simp only [bkz]
       refine tk 5 hH ?_;try simp only [bkz]
       refine rd2 6 10 (fun K hK => ?_) (fun K hK => ?_)
       ·go_simp;refine (HC1.out _ hB).mono ?_;rintro e wc ⟨u5,rfl,h1,hca,hb⟩;have hB:=hB.trans (hb.mono hB.size);refine hK.out _ _ (HS1.out _ hB) (fun hH2 => ?_);clear hK K hH;have hH:=hH2;clear hH2;try simp only [bkz]
        refine tk 7 hH ?_;try simp only [bkz]
        refine tk 8 hH ?_;try simp only [bkz]
        refine tk 9 hH ?_;try simp only [bkz]
        refine rd1 10 (fun K hK => ?_);go_simp;refine hK.out _ _ (HS1.out _ (hB.alloc hB.size _)) (fun hH2 => ?_);clear hK K hH;have hH:=hH2;clear hH2;try simp only [bkz]
        have hst:(store ⟨wc.heap.size,0,none⟩ u5).run Tryz.prog (wc.alloc (.cells #[.nilIface] 30)) = _:=st_new h1;refine rd1 11 (fun K hK => ?_);go_simp;refine hK.out _ _ (HS1.out _ (hB.alloc hB.size _)) (fun hH2 => ?_);clear hK K hH;have hH:=hH2;clear hH2;try simp only [bkz]
        refine tk 12 hH ?_;try simp only [bkz]
        refine dn ?_;exact ⟨rfl,_,_,_,_,_,_,_,_,_,_,u5,wc.heap.size,by (try simp only [bkz]);rfl,hB.alloc hB.size _,hB.size,heap_alloc_new wc _,h1,hca.stay Ka (bqA _)⟩
       ·go_simp;have hF:=heap_alloc_new wd (.cells #[.nilIface] 30);have hsz:=hB.size;have hB:=hB.alloc hB.size (.cells #[.nilIface] 30);refine hK.out _ _ (HS1.out _ hB) (fun hH2 => ?_);clear hK K hH;have hH:=hH2;clear hH2;try simp only [bkz]
        generalize wd.alloc (.cells #[.nilIface] 30) = we at *;refine rd1 6 (fun K hK => ?_);go_simp;refine (HC1.out _ hB).mono ?_;rintro e wc ⟨u5,rfl,h1,hca,hb⟩;have hB:=hB.trans (hb.mono hB.size);have hF:=(hb.block _ (lt_of_heap hF)).trans hF;refine hK.out _ _ (HS1.out _ hB) (fun hH2 => ?_);clear hK K hH;have hH:=hH2;clear hH2;try simp only [bkz]
        refine tk 7 hH ?_;try simp only [bkz]
        refine tk 8 hH ?_;try simp only [bkz]
        refine tk 9 hH ?_;try simp only [bkz]
        have hst:=st_put h1 hF;refine rd1 11 (fun K hK => ?_);go_simp;have hB:=hB.setCell (p:=⟨wd.heap.size,0,none⟩) (by show _ ≤ wd.heap.size;omega) u5;refine hK.out _ _ (HS1.out _ hB) (fun hH2 => ?_);clear hK K hH;have hH:=hH2;clear hH2;try simp only [bkz]
        refine tk 12 hH ?_;try simp only [bkz]
        refine dn ?_;exact ⟨rfl,_,_,_,_,_,_,_,_,_,_,u5,wd.heap.size,by (try simp only [bkz]);rfl,hB,hsz,heap_put1 hF u5,h1,hca.keep Ka (Kpt.set hF (fun h => h.1 rfl) 0 u5) (by simp [World.setCell])⟩
      rintro x' m5 ⟨t148,t149,t150,t151,t152,t153,t154,t147,t155,t156,u5,g5,rfl,hB,hg,hF,h1,hca⟩;try simp only [bkz]
      have K5:=hdz (K3.out.stay Ka Kb hB);have HB5:=hdz hB;have G5:=hdz (anz hF (anz h1 (anz hca hg)));have HC3:=hdz (fun (W:World) (hb:Below m5.heap.size m5 W) => HC2.out W (HB5.out.trans (hb.mono HB5.out.size)));have HS2:=hdz (fun (w':World) (hz:Below m5.heap.size m5 w') => (show w'.cell? ⟨w5.heap.size,0,none⟩ = some va ∧ w'.cell? ⟨b0,o0 + i * 7 + 4,none⟩ = some (.int .i64 y1) ∧ w'.cell? ⟨b0,o0 + i * 7 + 5,none⟩ = some (.int .i64 y2) from ⟨one_cell (K5.out.stay Ka Kb hz).y,(HAC.out _ (K5.out.stay Ka Kb hz).bl).2.2.2.1,(HAC.out _ (K5.out.stay Ka Kb hz).bl).2.2.2.2.1⟩));clear hB hg hF h1 hca HC1 HC2 HS1;go_wp2_with fail
      refine wp_after (R:=fun x x' w' => ∃ (s158 s159 s160 s161 s162 s163 s164 s157 s165 s166 u:Value) (g:Nat),x' = ((((((((((((x.put (some 158) s158).put (some 159) s159).put (some 160) s160).put (some 161) s161).put (some 162) s162).put (some 163) s163).put (some 164) s164).put (some 157) s157).put (some 165) s165).put (some 166) s166).put (some 20) (.pointer (some ⟨g,0,none⟩))).put (some 21) (.int .i64 zt)) ∧ Below m5.heap.size m5 w' ∧ m5.heap.size ≤ g ∧ w'.heap[g]? = some (.cells #[u] 30 (0,0)) ∧ u.oneCell' = true ∧ CA Tb Atb w' u ot) ?_ ?_
      ·have hB:=(Below.refl m5.heap.size m5).drew;refine wp_region_noPanic ?_;refine wp_region_held_drew (S:=fun w' => w'.cell? ⟨w5.heap.size,0,none⟩ = some va ∧ w'.cell? ⟨b0,o0 + i * 7 + 4,none⟩ = some (.int .i64 y1) ∧ w'.cell? ⟨b0,o0 + i * 7 + 5,none⟩ = some (.int .i64 y2)) (by kernel_rfl) (HS2.out _ hB) (fun hH => ?_);generalize m5.drew = wd at *;refine tk 0 hH ?_;try simp only [bkz]
       refine tk 1 hH ?_;try simp only [bkz]
       refine tk 2 hH ?_;try simp only [bkz]
       refine tk 3 hH ?_;try simp only [bkz]
       refine tk 4 hH ?_;try simp only [bkz]
       refine tk 5 hH ?_;try simp only [bkz]
       refine rd2 6 10 (fun K hK => ?_) (fun K hK => ?_)
       ·go_simp;refine (HC3.out _ hB).mono ?_;rintro e wc ⟨u5,rfl,h1,hca,hb⟩;have hB:=hB.trans (hb.mono hB.size);refine hK.out _ _ (HS2.out _ hB) (fun hH2 => ?_);clear hK K hH;have hH:=hH2;clear hH2;try simp only [bkz]
        refine tk 7 hH ?_;try simp only [bkz]
        refine tk 8 hH ?_;try simp only [bkz]
        refine tk 9 hH ?_;try simp only [bkz]
        refine rd1 10 (fun K hK => ?_);go_simp;refine hK.out _ _ (HS2.out _ (hB.alloc hB.size _)) (fun hH2 => ?_);clear hK K hH;have hH:=hH2;clear hH2;try simp only [bkz]
        have hst:(store ⟨wc.heap.size,0,none⟩ u5).run Tryz.prog (wc.alloc (.cells #[.nilIface] 30)) = _:=st_new h1;refine rd1 11 (fun K hK => ?_);go_simp;refine hK.out _ _ (HS2.out _ (hB.alloc hB.size _)) (fun hH2 => ?_);clear hK K hH;have hH:=hH2;clear hH2;try simp only [bkz]
        refine tk 12 hH ?_;try simp only [bkz]
        refine dn ?_;exact ⟨rfl,_,_,_,_,_,_,_,_,_,_,u5,wc.heap.size,by (try simp only [bkz]);rfl,hB.alloc hB.size _,hB.size,heap_alloc_new wc _,h1,hca.stay Kb (bqA _)⟩
       ·go_simp;have hF:=heap_alloc_new wd (.cells #[.nilIface] 30);have hsz:=hB.size;have hB:=hB.alloc hB.size (.cells #[.nilIface] 30);refine hK.out _ _ (HS2.out _ hB) (fun hH2 => ?_);clear hK K hH;have hH:=hH2;clear hH2;try simp only [bkz]
        generalize wd.alloc (.cells #[.nilIface] 30) = we at *;refine rd1 6 (fun K hK => ?_);go_simp;refine (HC3.out _ hB).mono ?_;rintro e wc ⟨u5,rfl,h1,hca,hb⟩;have hB:=hB.trans (hb.mono hB.size);have hF:=(hb.block _ (lt_of_heap hF)).trans hF;refine hK.out _ _ (HS2.out _ hB) (fun hH2 => ?_);clear hK K hH;have hH:=hH2;clear hH2;try simp only [bkz]
        refine tk 7 hH ?_;try simp only [bkz]
        refine tk 8 hH ?_;try simp only [bkz]
        refine tk 9 hH ?_;try simp only [bkz]
        have hst:=st_put h1 hF;refine rd1 11 (fun K hK => ?_);go_simp;have hB:=hB.setCell (p:=⟨wd.heap.size,0,none⟩) (by show _ ≤ wd.heap.size;omega) u5;refine hK.out _ _ (HS2.out _ hB) (fun hH2 => ?_);clear hK K hH;have hH:=hH2;clear hH2;try simp only [bkz]
        refine tk 12 hH ?_;try simp only [bkz]
        refine dn ?_;exact ⟨rfl,_,_,_,_,_,_,_,_,_,_,u5,wd.heap.size,by (try simp only [bkz]);rfl,hB,hsz,heap_put1 hF u5,h1,hca.keep Kb (Kpt.set hF (fun h => h.1 rfl) 0 u5) (by simp [World.setCell])⟩
      rintro x' m7 ⟨t158,t159,t160,t161,t162,t163,t164,t157,t165,t166,u6,g6,rfl,hB,hg,hF,h1,hca⟩;try simp only [bkz]
      have K7:=hdz (K5.out.stay Ka Kb hB);have F5:=(hB.block _ (lt_of_heap G5.out.1)).trans G5.out.1;have F6:=hF;have O5:=G5.out.2.1;have O6:=h1;have C5:=G5.out.2.2.1.stay Ka hB;have C6:=hca;have HG:=hdz (show g5 ≠ w3.heap.size ∧ g6 ≠ w3.heap.size from ⟨by have:=lt_of_heap K3.out.x;have:=G5.out.2.2.2;omega,by have:=lt_of_heap K3.out.x;have:=HB5.out.size;omega⟩);clear hB hg hF h1 hca HC3 HS2 G5 HB5 K5;have hx7:=one_cell F5;have K8:=K7.out.putX Ka Kb C5;have t1:=st_put O5 K7.out.x;have hy7:=one_cell (var_other (b:=w3.heap.size) F6 (by have:=HG.out;omega) u5);have t2:=st_put O6 K8.y;have K9:=K8.putY Ka Kb (u:=u6) (C6.keep Kb (Kpt.set (N:=NH) K7.out.x (fun h => h.1 rfl) 0 u5) (by simp [World.setCell]));have cx:=one_cell K9.x;have KT:=hdz K9;clear K8 K9 C5 C6 F5 F6 O5 O6 K7;go_wp2_with fail
      generalize (m7.setCell ⟨w3.heap.size,0,none⟩ u5).setCell ⟨w5.heap.size,0,none⟩ u6 = wt at *;clear hx7 hy7 t1 t2 cx;obtain ⟨⟨s1,s2⟩,hsp⟩:=exq (mN ot);obtain ⟨z9,hz9⟩:=exq (eP ot);have HMa:=hdz (fun (W:World) (h:CA Ta Ata W u5 ot) => (show Calls Tryz.prog 20 #[.agg #[u5],.pointer none] W (fun e w' => e = .returned (.tuple #[.agg #[.int .i64 s1,.int .i64 s2],.int .i64 z9]) ∧ Below W.heap.size W w') from by have:=minO Ka u5 ot W h;rw [← hsp,← hz9] at this;exact this));have HMb:=hdz (fun (W:World) (h:CA Tb Atb W u6 ot) => (show Calls Tryz.prog 20 #[.agg #[u6],.pointer none] W (fun e w' => e = .returned (.tuple #[.agg #[.int .i64 s1,.int .i64 s2],.int .i64 z9]) ∧ Below W.heap.size W w') from by have:=minO Kb u6 ot W h;rw [← hsp,← hz9] at this;exact this));clear hsp hz9;refine (HMa.out _ KT.out.xa).mono ?_;rintro e w61 ⟨rfl,hb⟩;have KTx:=hdz (KT.out.stay Ka Kb hb);clear KT hb;have hb:=(Below.refl w61.heap.size w61).alloc (Nat.le_refl _) (.cells #[.int .i64 s1,.int .i64 s2] 33);have KT:=hdz (KTx.out.stay Ka Kb hb);clear KTx hb;have V1:=hdz (show Box2 (w61.alloc (.cells #[.int .i64 s1,.int .i64 s2] 33)) (w61.heap.size) 33 (.int .i64 s1) (.int .i64 s2) from new_at (by simp));have c_y:=one_cell KT.out.y;go_wp2_with fail
      clear c_y;generalize w61.alloc (.cells #[.int .i64 s1,.int .i64 s2] 33) = w62 at *;refine (HMb.out _ KT.out.ya).mono ?_;rintro e w63 ⟨rfl,hb⟩;have KTx:=hdz (KT.out.stay Ka Kb hb);have V1x:=hdz (V1.out.stay hb);clear KT V1 hb;have hb:=(Below.refl w63.heap.size w63).alloc (Nat.le_refl _) (.cells #[.int .i64 s1,.int .i64 s2] 33);have KT:=hdz (KTx.out.stay Ka Kb hb);have V1:=hdz (V1x.out.stay hb);clear KTx V1x hb;have V2:=hdz (show Box2 (w63.alloc (.cells #[.int .i64 s1,.int .i64 s2] 33)) (w63.heap.size) 33 (.int .i64 s1) (.int .i64 s2) from new_at (by simp));go_wp2_with fail
      generalize w63.alloc (.cells #[.int .i64 s1,.int .i64 s2] 33) = w64 at *;clear HMa HMb;have VX:=hdz (KT.out.x);have VY:=hdz (KT.out.y);have kcV10:=fun d os => cell_regrown (V1.out.c0) d os;have kcV11:=fun d os => cell_regrown (V1.out.c1) d os;have kcV20:=fun d os => cell_regrown (V2.out.c0) d os;have kcV21:=fun d os => cell_regrown (V2.out.c1) d os;have kcVX0:=fun d os => cell_regrown (one_cell VX.out) d os;have kcVY0:=fun d os => cell_regrown (one_cell VY.out) d os;have HC0:=hdz (fun d os => in_class (w:=w64) (fun W hb => sizeO Ka u5 ot W (KT.out.xa.stay Ka hb)) d os);have HC1:=hdz (fun d os => in_class (w:=w64) (fun W hb => sizeO Kb u6 ot W (KT.out.ya.stay Kb hb)) d os);rw [world_self w64];generalize w64.drawn = d0;generalize (#[]:Array Obj) = os0;refine wp_region_class (by kernel_rfl) (by kernel_rfl) ?_;repeat (go_big_quiet_step (first | (with_reducible exact HC0.out _ _) | (with_reducible exact HC1.out _ _) | fail))
      refine wpQuiet_nil ?_;intro _ hw';obtain ⟨⟨dq,osq⟩,hw''⟩:=hw';subst hw'';have hb:=below_regrown w64 dq osq;have KTx:=hdz (KT.out.stay Ka Kb hb);have V1x:=hdz (V1.out.stay hb);have V2x:=hdz (V2.out.stay hb);have VXx:=hdz ((hb.block _ (lt_of_heap VX.out)).trans VX.out);have VYx:=hdz ((hb.block _ (lt_of_heap VY.out)).trans VY.out);clear KT V1 V2 VX VY hb;clear kcV10 kcV11 kcV20 kcV21 kcVX0 kcVY0 HC0 HC1;generalize grow (redrawn w64 dq) osq = w65 at *;clear V1x V2x VYx;obtain ⟨g8,c8,W8,g9,c9,W9,hr8,hy8,hr9,hks⟩:=KS.grewU Ka Kb KTx.out (by omega) HOT.out;have c_VX:=one_cell VXx.out;have HR8:=hdz hr8;have HR9:=hdz hr9;have KZ:=hdz hks;clear hr8 hr9 hks KTx;go_wp2_with (at_builtin;first | refine wpList_append_run rfl _ _ _ rfl _ _ _ _ rfl rfl HR8.out ?_ | refine wpList_append_run rfl _ _ _ rfl _ _ _ _ rfl rfl HR9.out ?_)
      have hL:=HI.out.2.2;have h30:=HX.out.2.2.2.1.1;subst hL;go_roundg (n - (i + 1))
      case measure => have:=HI.out;omega
      case rel => exact ⟨i + 1,g8,c8,g9,c9,ts ++ [ot],zt,_,_,ot,ot,rfl,rfl,rfl,rfl,by congr 1;unfold wrap64;omega,by omega,by rw [List.length_append,HI.out.2.1];rfl,KZ.out⟩
    focus
     subst hyk
     as_aux_lemma =>
      obtain ⟨ub,cub,hub⟩:=Col.at K3.out.u HO.out.1;obtain ⟨vb,cvb,hvb⟩:=Col.at K3.out.v HO.out.1;have UB:=hdz hub;have VB:=hdz hvb;have CB:=hdz (anz cub cvb);clear hub hvb cub cvb;obtain ⟨ot,hot⟩:=exq (oM oa ob);obtain ⟨zt,hzt⟩:=exq (eM oa ob);have HOT:=hdz (show sz ot ≤ 101 by rw [hot];have:=sz_oM oa ob;have:=HSS.out;have:=HSZ.out;omega);have HC1:=hdz (fun (W:World) (hb:Below m3.heap.size m3 W) => (show Calls Tryz.prog 13 #[.agg #[ua],.pointer none,.agg #[ub]] W (GO Ta Ata ot zt W) from by rw [hot,hzt];exact meldO Ka ua ub oa ob W (K3.out.stay Ka Kb hb).xa (UB.out.1.stay Ka hb) (by have:=HSS.out;have:=HSZ.out;omega)));have HC2:=hdz (fun (W:World) (hb:Below m3.heap.size m3 W) => (show Calls Tryz.prog 13 #[.agg #[va],.pointer none,.agg #[vb]] W (GO Tb Atb ot zt W) from by rw [hot,hzt];exact meldO Kb va vb oa ob W (K3.out.stay Ka Kb hb).ya (VB.out.1.stay Kb hb) (by have:=HSS.out;have:=HSZ.out;omega)));have HS1:=hdz (fun (w':World) (hz:Below m3.heap.size m3 w') => (show w'.cell? ⟨w3.heap.size,0,none⟩ = some ua ∧ w'.cell? ⟨gu,jb,none⟩ = some ub from ⟨one_cell (K3.out.stay Ka Kb hz).x,(hz.cell (p:=⟨gu,jb,none⟩) (block_lt_of_cell CB.out.1)).trans CB.out.1⟩));clear hot hzt;go_wp2_with fail
      clear e0;refine wp_after (R:=fun x x' w' => ∃ (s174 s175 s176 s177 s178 s179 s173 s180 s181 u:Value) (g:Nat),x' = (((((((((((x.put (some 174) s174).put (some 175) s175).put (some 176) s176).put (some 177) s177).put (some 178) s178).put (some 179) s179).put (some 173) s173).put (some 180) s180).put (some 181) s181).put (some 22) (.pointer (some ⟨g,0,none⟩))).put (some 23) (.int .i64 zt)) ∧ Below m3.heap.size m3 w' ∧ m3.heap.size ≤ g ∧ w'.heap[g]? = some (.cells #[u] 30 (0,0)) ∧ u.oneCell' = true ∧ CA Ta Ata w' u ot) ?_ ?_
      ·have hB:=(Below.refl m3.heap.size m3).drew;refine wp_region_noPanic ?_;refine wp_region_held_drew (S:=fun w' => w'.cell? ⟨w3.heap.size,0,none⟩ = some ua ∧ w'.cell? ⟨gu,jb,none⟩ = some ub) (by kernel_rfl) (HS1.out _ hB) (fun hH => ?_);generalize m3.drew = wd at *;refine tk 0 hH ?_;try simp only [bkz]
       refine tk 1 hH ?_;try simp only [bkz]
       refine tk 2 hH ?_;try simp only [bkz]
       refine tk 3 hH ?_;try simp only [bkz]
       refine tk 4 hH ?_;try simp only [bkz]
       refine rd2 5 9 (fun K hK => ?_) (fun K hK => ?_)
       ·go_simp;refine (HC1.out _ hB).mono ?_;rintro e wc ⟨u5,rfl,h1,hca,hb⟩;have hB:=hB.trans (hb.mono hB.size);refine hK.out _ _ (HS1.out _ hB) (fun hH2 => ?_);clear hK K hH;have hH:=hH2;clear hH2;try simp only [bkz]
        refine tk 6 hH ?_;try simp only [bkz]
        refine tk 7 hH ?_;try simp only [bkz]
        refine tk 8 hH ?_;try simp only [bkz]
        refine rd1 9 (fun K hK => ?_);go_simp;refine hK.out _ _ (HS1.out _ (hB.alloc hB.size _)) (fun hH2 => ?_);clear hK K hH;have hH:=hH2;clear hH2;try simp only [bkz]
        have hst:(store ⟨wc.heap.size,0,none⟩ u5).run Tryz.prog (wc.alloc (.cells #[.nilIface] 30)) = _:=st_new h1;refine rd1 10 (fun K hK => ?_);go_simp;refine hK.out _ _ (HS1.out _ (hB.alloc hB.size _)) (fun hH2 => ?_);clear hK K hH;have hH:=hH2;clear hH2;try simp only [bkz]
        refine tk 11 hH ?_;try simp only [bkz]
        refine dn ?_;exact ⟨rfl,_,_,_,_,_,_,_,_,_,u5,wc.heap.size,by (try simp only [bkz]);rfl,hB.alloc hB.size _,hB.size,heap_alloc_new wc _,h1,hca.stay Ka (bqA _)⟩
       ·go_simp;have hF:=heap_alloc_new wd (.cells #[.nilIface] 30);have hsz:=hB.size;have hB:=hB.alloc hB.size (.cells #[.nilIface] 30);refine hK.out _ _ (HS1.out _ hB) (fun hH2 => ?_);clear hK K hH;have hH:=hH2;clear hH2;try simp only [bkz]
        generalize wd.alloc (.cells #[.nilIface] 30) = we at *;refine rd1 5 (fun K hK => ?_);go_simp;refine (HC1.out _ hB).mono ?_;rintro e wc ⟨u5,rfl,h1,hca,hb⟩;have hB:=hB.trans (hb.mono hB.size);have hF:=(hb.block _ (lt_of_heap hF)).trans hF;refine hK.out _ _ (HS1.out _ hB) (fun hH2 => ?_);clear hK K hH;have hH:=hH2;clear hH2;try simp only [bkz]
        refine tk 6 hH ?_;try simp only [bkz]
        refine tk 7 hH ?_;try simp only [bkz]
        refine tk 8 hH ?_;try simp only [bkz]
        have hst:=st_put h1 hF;refine rd1 10 (fun K hK => ?_);go_simp;have hB:=hB.setCell (p:=⟨wd.heap.size,0,none⟩) (by show _ ≤ wd.heap.size;omega) u5;refine hK.out _ _ (HS1.out _ hB) (fun hH2 => ?_);clear hK K hH;have hH:=hH2;clear hH2;try simp only [bkz]
        refine tk 11 hH ?_;try simp only [bkz]
        refine dn ?_;exact ⟨rfl,_,_,_,_,_,_,_,_,_,u5,wd.heap.size,by (try simp only [bkz]);rfl,hB,hsz,heap_put1 hF u5,h1,hca.keep Ka (Kpt.set hF (fun h => h.1 rfl) 0 u5) (by simp [World.setCell])⟩
      rintro x' m5 ⟨t174,t175,t176,t177,t178,t179,t173,t180,t181,u5,g5,rfl,hB,hg,hF,h1,hca⟩;try simp only [bkz]
      have K5:=hdz (K3.out.stay Ka Kb hB);have HB5:=hdz hB;have G5:=hdz (anz hF (anz h1 (anz hca hg)));have HC3:=hdz (fun (W:World) (hb:Below m5.heap.size m5 W) => HC2.out W (HB5.out.trans (hb.mono HB5.out.size)));have HS2:=hdz (fun (w':World) (hz:Below m5.heap.size m5 w') => (show w'.cell? ⟨w5.heap.size,0,none⟩ = some va ∧ w'.cell? ⟨gv,jb,none⟩ = some vb from ⟨one_cell (K5.out.stay Ka Kb hz).y,((HB5.out.trans (hz.mono HB5.out.size)).cell (p:=⟨gv,jb,none⟩) (block_lt_of_cell CB.out.2)).trans CB.out.2⟩));clear hB hg hF h1 hca HC1 HC2 HS1;go_wp2_with fail
      refine wp_after (R:=fun x x' w' => ∃ (s183 s184 s185 s186 s187 s188 s182 s189 s190 u:Value) (g:Nat),x' = (((((((((((x.put (some 183) s183).put (some 184) s184).put (some 185) s185).put (some 186) s186).put (some 187) s187).put (some 188) s188).put (some 182) s182).put (some 189) s189).put (some 190) s190).put (some 24) (.pointer (some ⟨g,0,none⟩))).put (some 25) (.int .i64 zt)) ∧ Below m5.heap.size m5 w' ∧ m5.heap.size ≤ g ∧ w'.heap[g]? = some (.cells #[u] 30 (0,0)) ∧ u.oneCell' = true ∧ CA Tb Atb w' u ot) ?_ ?_
      ·have hB:=(Below.refl m5.heap.size m5).drew;refine wp_region_noPanic ?_;refine wp_region_held_drew (S:=fun w' => w'.cell? ⟨w5.heap.size,0,none⟩ = some va ∧ w'.cell? ⟨gv,jb,none⟩ = some vb) (by kernel_rfl) (HS2.out _ hB) (fun hH => ?_);generalize m5.drew = wd at *;refine tk 0 hH ?_;try simp only [bkz]
       refine tk 1 hH ?_;try simp only [bkz]
       refine tk 2 hH ?_;try simp only [bkz]
       refine tk 3 hH ?_;try simp only [bkz]
       refine tk 4 hH ?_;try simp only [bkz]
       refine rd2 5 9 (fun K hK => ?_) (fun K hK => ?_)
       ·go_simp;refine (HC3.out _ hB).mono ?_;rintro e wc ⟨u5,rfl,h1,hca,hb⟩;have hB:=hB.trans (hb.mono hB.size);refine hK.out _ _ (HS2.out _ hB) (fun hH2 => ?_);clear hK K hH;have hH:=hH2;clear hH2;try simp only [bkz]
        refine tk 6 hH ?_;try simp only [bkz]
        refine tk 7 hH ?_;try simp only [bkz]
        refine tk 8 hH ?_;try simp only [bkz]
        refine rd1 9 (fun K hK => ?_);go_simp;refine hK.out _ _ (HS2.out _ (hB.alloc hB.size _)) (fun hH2 => ?_);clear hK K hH;have hH:=hH2;clear hH2;try simp only [bkz]
        have hst:(store ⟨wc.heap.size,0,none⟩ u5).run Tryz.prog (wc.alloc (.cells #[.nilIface] 30)) = _:=st_new h1;refine rd1 10 (fun K hK => ?_);go_simp;refine hK.out _ _ (HS2.out _ (hB.alloc hB.size _)) (fun hH2 => ?_);clear hK K hH;have hH:=hH2;clear hH2;try simp only [bkz]
        refine tk 11 hH ?_;try simp only [bkz]
        refine dn ?_;exact ⟨rfl,_,_,_,_,_,_,_,_,_,u5,wc.heap.size,by (try simp only [bkz]);rfl,hB.alloc hB.size _,hB.size,heap_alloc_new wc _,h1,hca.stay Kb (bqA _)⟩
       ·go_simp;have hF:=heap_alloc_new wd (.cells #[.nilIface] 30);have hsz:=hB.size;have hB:=hB.alloc hB.size (.cells #[.nilIface] 30);refine hK.out _ _ (HS2.out _ hB) (fun hH2 => ?_);clear hK K hH;have hH:=hH2;clear hH2;try simp only [bkz]
        generalize wd.alloc (.cells #[.nilIface] 30) = we at *;refine rd1 5 (fun K hK => ?_);go_simp;refine (HC3.out _ hB).mono ?_;rintro e wc ⟨u5,rfl,h1,hca,hb⟩;have hB:=hB.trans (hb.mono hB.size);have hF:=(hb.block _ (lt_of_heap hF)).trans hF;refine hK.out _ _ (HS2.out _ hB) (fun hH2 => ?_);clear hK K hH;have hH:=hH2;clear hH2;try simp only [bkz]
        refine tk 6 hH ?_;try simp only [bkz]
        refine tk 7 hH ?_;try simp only [bkz]
        refine tk 8 hH ?_;try simp only [bkz]
        have hst:=st_put h1 hF;refine rd1 10 (fun K hK => ?_);go_simp;have hB:=hB.setCell (p:=⟨wd.heap.size,0,none⟩) (by show _ ≤ wd.heap.size;omega) u5;refine hK.out _ _ (HS2.out _ hB) (fun hH2 => ?_);clear hK K hH;have hH:=hH2;clear hH2;try simp only [bkz]
        refine tk 11 hH ?_;try simp only [bkz]
        refine dn ?_;exact ⟨rfl,_,_,_,_,_,_,_,_,_,u5,wd.heap.size,by (try simp only [bkz]);rfl,hB,hsz,heap_put1 hF u5,h1,hca.keep Kb (Kpt.set hF (fun h => h.1 rfl) 0 u5) (by simp [World.setCell])⟩
      rintro x' m7 ⟨t183,t184,t185,t186,t187,t188,t182,t189,t190,u6,g6,rfl,hB,hg,hF,h1,hca⟩;try simp only [bkz]
      have K7:=hdz (K5.out.stay Ka Kb hB);have F5:=(hB.block _ (lt_of_heap G5.out.1)).trans G5.out.1;have F6:=hF;have O5:=G5.out.2.1;have O6:=h1;have C5:=G5.out.2.2.1.stay Ka hB;have C6:=hca;have HG:=hdz (show g5 ≠ w3.heap.size ∧ g6 ≠ w3.heap.size from ⟨by have:=lt_of_heap K3.out.x;have:=G5.out.2.2.2;omega,by have:=lt_of_heap K3.out.x;have:=HB5.out.size;omega⟩);clear hB hg hF h1 hca HC3 HS2 G5 HB5 K5;have hx7:=one_cell F5;have K8:=K7.out.putX Ka Kb C5;have t1:=st_put O5 K7.out.x;have hy7:=one_cell (var_other (b:=w3.heap.size) F6 (by have:=HG.out;omega) u5);have t2:=st_put O6 K8.y;have K9:=K8.putY Ka Kb (u:=u6) (C6.keep Kb (Kpt.set (N:=NH) K7.out.x (fun h => h.1 rfl) 0 u5) (by simp [World.setCell]));have cx:=one_cell K9.x;have KT:=hdz K9;clear K8 K9 C5 C6 F5 F6 O5 O6 K7;go_wp2_with fail
      generalize (m7.setCell ⟨w3.heap.size,0,none⟩ u5).setCell ⟨w5.heap.size,0,none⟩ u6 = wt at *;clear hx7 hy7 t1 t2 cx;obtain ⟨⟨s1,s2⟩,hsp⟩:=exq (mN ot);obtain ⟨z9,hz9⟩:=exq (eP ot);have HMa:=hdz (fun (W:World) (h:CA Ta Ata W u5 ot) => (show Calls Tryz.prog 20 #[.agg #[u5],.pointer none] W (fun e w' => e = .returned (.tuple #[.agg #[.int .i64 s1,.int .i64 s2],.int .i64 z9]) ∧ Below W.heap.size W w') from by have:=minO Ka u5 ot W h;rw [← hsp,← hz9] at this;exact this));have HMb:=hdz (fun (W:World) (h:CA Tb Atb W u6 ot) => (show Calls Tryz.prog 20 #[.agg #[u6],.pointer none] W (fun e w' => e = .returned (.tuple #[.agg #[.int .i64 s1,.int .i64 s2],.int .i64 z9]) ∧ Below W.heap.size W w') from by have:=minO Kb u6 ot W h;rw [← hsp,← hz9] at this;exact this));clear hsp hz9;refine (HMa.out _ KT.out.xa).mono ?_;rintro e w61 ⟨rfl,hb⟩;have KTx:=hdz (KT.out.stay Ka Kb hb);clear KT hb;have hb:=(Below.refl w61.heap.size w61).alloc (Nat.le_refl _) (.cells #[.int .i64 s1,.int .i64 s2] 33);have KT:=hdz (KTx.out.stay Ka Kb hb);clear KTx hb;have V1:=hdz (show Box2 (w61.alloc (.cells #[.int .i64 s1,.int .i64 s2] 33)) (w61.heap.size) 33 (.int .i64 s1) (.int .i64 s2) from new_at (by simp));have c_y:=one_cell KT.out.y;go_wp2_with fail
      clear c_y;generalize w61.alloc (.cells #[.int .i64 s1,.int .i64 s2] 33) = w62 at *;refine (HMb.out _ KT.out.ya).mono ?_;rintro e w63 ⟨rfl,hb⟩;have KTx:=hdz (KT.out.stay Ka Kb hb);have V1x:=hdz (V1.out.stay hb);clear KT V1 hb;have hb:=(Below.refl w63.heap.size w63).alloc (Nat.le_refl _) (.cells #[.int .i64 s1,.int .i64 s2] 33);have KT:=hdz (KTx.out.stay Ka Kb hb);have V1:=hdz (V1x.out.stay hb);clear KTx V1x hb;have V2:=hdz (show Box2 (w63.alloc (.cells #[.int .i64 s1,.int .i64 s2] 33)) (w63.heap.size) 33 (.int .i64 s1) (.int .i64 s2) from new_at (by simp));go_wp2_with fail
      generalize w63.alloc (.cells #[.int .i64 s1,.int .i64 s2] 33) = w64 at *;clear HMa HMb;have VX:=hdz (KT.out.x);have VY:=hdz (KT.out.y);have kcV10:=fun d os => cell_regrown (V1.out.c0) d os;have kcV11:=fun d os => cell_regrown (V1.out.c1) d os;have kcV20:=fun d os => cell_regrown (V2.out.c0) d os;have kcV21:=fun d os => cell_regrown (V2.out.c1) d os;have kcVX0:=fun d os => cell_regrown (one_cell VX.out) d os;have kcVY0:=fun d os => cell_regrown (one_cell VY.out) d os;have HC0:=hdz (fun d os => in_class (w:=w64) (fun W hb => sizeO Ka u5 ot W (KT.out.xa.stay Ka hb)) d os);have HC1:=hdz (fun d os => in_class (w:=w64) (fun W hb => sizeO Kb u6 ot W (KT.out.ya.stay Kb hb)) d os);rw [world_self w64];generalize w64.drawn = d0;generalize (#[]:Array Obj) = os0;refine wp_region_class (by kernel_rfl) (by kernel_rfl) ?_;repeat (go_big_quiet_step (first | (with_reducible exact HC0.out _ _) | (with_reducible exact HC1.out _ _) | fail))
      refine wpQuiet_nil ?_;intro _ hw';obtain ⟨⟨dq,osq⟩,hw''⟩:=hw';subst hw'';have hb:=below_regrown w64 dq osq;have KTx:=hdz (KT.out.stay Ka Kb hb);have V1x:=hdz (V1.out.stay hb);have V2x:=hdz (V2.out.stay hb);have VXx:=hdz ((hb.block _ (lt_of_heap VX.out)).trans VX.out);have VYx:=hdz ((hb.block _ (lt_of_heap VY.out)).trans VY.out);clear KT V1 V2 VX VY hb;clear kcV10 kcV11 kcV20 kcV21 kcVX0 kcVY0 HC0 HC1;generalize grow (redrawn w64 dq) osq = w65 at *;clear V1x V2x VYx;obtain ⟨g8,c8,W8,g9,c9,W9,hr8,hy8,hr9,hks⟩:=KS.grewU Ka Kb KTx.out (by omega) HOT.out;have c_VX:=one_cell VXx.out;have HR8:=hdz hr8;have HR9:=hdz hr9;have KZ:=hdz hks;clear hr8 hr9 hks KTx;go_wp2_with (at_builtin;first | refine wpList_append_run rfl _ _ _ rfl _ _ _ _ rfl rfl HR8.out ?_ | refine wpList_append_run rfl _ _ _ rfl _ _ _ _ rfl rfl HR9.out ?_)
      have hL:=HI.out.2.2;have h30:=HX.out.2.2.2.1.1;subst hL;go_roundg (n - (i + 1))
      case measure => have:=HI.out;omega
      case rel => exact ⟨i + 1,g8,c8,g9,c9,ts ++ [ot],zt,_,_,ot,ot,rfl,rfl,rfl,rfl,by congr 1;unfold wrap64;omega,by omega,by rw [List.length_append,HI.out.2.1];rfl,KZ.out⟩
    focus
     subst hyk
     as_aux_lemma =>
      obtain ⟨ot,hot⟩:=exq (oP oa);obtain ⟨zt,hzt⟩:=exq (eP oa);have HOT:=hdz (show sz ot ≤ 101 by rw [hot];have:=sz_oP oa;have:=HSS.out;have:=HSZ.out;omega);have HC1:=popO Ka ua oa m3 K3.out.xa (by have:=HSS.out;have:=HSZ.out;omega);rw [← hot,← hzt] at HC1;have cx:=one_cell K3.out.x;have HQ:=hdz HC1;have HOZ:=hdz (anz hot hzt);clear HC1 hot hzt;go_wp2_with fail
      refine HQ.out.mono ?_;rintro e m4 ⟨u5,rfl,h1,hca,hb⟩;have t1:(store ⟨m4.heap.size,0,none⟩ u5).run Tryz.prog (m4.alloc (.cells #[.nilIface] 30)) = _:=st_new h1;have hA:=hb.alloc hb.size (.cells #[u5] 30);have K5:=hdz (K3.out.stay Ka Kb hA);have G5:=hdz (show (m4.alloc (.cells #[u5] 30)).heap[m4.heap.size]? = some (.cells #[u5] 30 (0,0)) ∧ u5.oneCell' = true ∧ CA Ta Ata (m4.alloc (.cells #[u5] 30)) u5 ot ∧ m3.heap.size ≤ m4.heap.size from ⟨heap_alloc_new m4 _,h1,hca.stay Ka (bqA _),hb.size⟩);clear hA hca hb h1 e0 HQ;have cy:=one_cell K5.out.y;have HC2:=popO Kb va oa (m4.alloc (.cells #[u5] 30)) K5.out.ya (by have:=HSS.out;have:=HSZ.out;omega);rw [← HOZ.out.1,← HOZ.out.2] at HC2;have HQ:=hdz HC2;clear HC2;go_wp2_with fail
      refine HQ.out.mono ?_;rintro e m6 ⟨u6,rfl,h1,hca,hb⟩;clear t1 cx cy;generalize hw5:m4.alloc (.cells #[u5] 30) = m5 at *;have hA:=hb.alloc hb.size (.cells #[u6] 30);have t3:(store ⟨m6.heap.size,0,none⟩ u6).run Tryz.prog (m6.alloc (.cells #[.nilIface] 30)) = _:=st_new h1;have K7:=hdz (K5.out.stay Ka Kb hA);have F5:=(hA.block _ (lt_of_heap G5.out.1)).trans G5.out.1;have F6:=heap_alloc_new m6 (.cells #[u6] 30);have O5:=G5.out.2.1;have O6:=h1;have C5:=G5.out.2.2.1.stay Ka hA;have C6:=hca.stay Kb (bqA (.cells #[u6] 30));have HG:=hdz (show m4.heap.size ≠ w3.heap.size ∧ m6.heap.size ≠ w3.heap.size from ⟨by have:=lt_of_heap K3.out.x;have:=G5.out.2.2.2;omega,by have:=lt_of_heap K5.out.x;have:=hb.size;omega⟩);clear hA hca hb h1 HQ G5 K5;have hx7:=one_cell F5;have K8:=K7.out.putX Ka Kb C5;have t1:=st_put O5 K7.out.x;have hy7:=one_cell (var_other (b:=w3.heap.size) F6 (by have:=HG.out;omega) u5);have t2:=st_put O6 K8.y;have K9:=K8.putY Ka Kb (u:=u6) (C6.keep Kb (Kpt.set (N:=NH) K7.out.x (fun h => h.1 rfl) 0 u5) (by simp [World.setCell]));have cx:=one_cell K9.x;have KT:=hdz K9;clear K8 K9 C5 C6 F5 F6 O5 O6 K7;go_wp2_with fail
      generalize ((m6.alloc (.cells #[u6] 30)).setCell ⟨w3.heap.size,0,none⟩ u5).setCell ⟨w5.heap.size,0,none⟩ u6 = wt at *;clear hx7 hy7 t1 t2 t3 cx;obtain ⟨⟨s1,s2⟩,hsp⟩:=exq (mN ot);obtain ⟨z9,hz9⟩:=exq (eP ot);have HMa:=hdz (fun (W:World) (h:CA Ta Ata W u5 ot) => (show Calls Tryz.prog 20 #[.agg #[u5],.pointer none] W (fun e w' => e = .returned (.tuple #[.agg #[.int .i64 s1,.int .i64 s2],.int .i64 z9]) ∧ Below W.heap.size W w') from by have:=minO Ka u5 ot W h;rw [← hsp,← hz9] at this;exact this));have HMb:=hdz (fun (W:World) (h:CA Tb Atb W u6 ot) => (show Calls Tryz.prog 20 #[.agg #[u6],.pointer none] W (fun e w' => e = .returned (.tuple #[.agg #[.int .i64 s1,.int .i64 s2],.int .i64 z9]) ∧ Below W.heap.size W w') from by have:=minO Kb u6 ot W h;rw [← hsp,← hz9] at this;exact this));clear hsp hz9;refine (HMa.out _ KT.out.xa).mono ?_;rintro e w61 ⟨rfl,hb⟩;have KTx:=hdz (KT.out.stay Ka Kb hb);clear KT hb;have hb:=(Below.refl w61.heap.size w61).alloc (Nat.le_refl _) (.cells #[.int .i64 s1,.int .i64 s2] 33);have KT:=hdz (KTx.out.stay Ka Kb hb);clear KTx hb;have V1:=hdz (show Box2 (w61.alloc (.cells #[.int .i64 s1,.int .i64 s2] 33)) (w61.heap.size) 33 (.int .i64 s1) (.int .i64 s2) from new_at (by simp));have c_y:=one_cell KT.out.y;go_wp2_with fail
      clear c_y;generalize w61.alloc (.cells #[.int .i64 s1,.int .i64 s2] 33) = w62 at *;refine (HMb.out _ KT.out.ya).mono ?_;rintro e w63 ⟨rfl,hb⟩;have KTx:=hdz (KT.out.stay Ka Kb hb);have V1x:=hdz (V1.out.stay hb);clear KT V1 hb;have hb:=(Below.refl w63.heap.size w63).alloc (Nat.le_refl _) (.cells #[.int .i64 s1,.int .i64 s2] 33);have KT:=hdz (KTx.out.stay Ka Kb hb);have V1:=hdz (V1x.out.stay hb);clear KTx V1x hb;have V2:=hdz (show Box2 (w63.alloc (.cells #[.int .i64 s1,.int .i64 s2] 33)) (w63.heap.size) 33 (.int .i64 s1) (.int .i64 s2) from new_at (by simp));go_wp2_with fail
      generalize w63.alloc (.cells #[.int .i64 s1,.int .i64 s2] 33) = w64 at *;clear HMa HMb;have VX:=hdz (KT.out.x);have VY:=hdz (KT.out.y);have kcV10:=fun d os => cell_regrown (V1.out.c0) d os;have kcV11:=fun d os => cell_regrown (V1.out.c1) d os;have kcV20:=fun d os => cell_regrown (V2.out.c0) d os;have kcV21:=fun d os => cell_regrown (V2.out.c1) d os;have kcVX0:=fun d os => cell_regrown (one_cell VX.out) d os;have kcVY0:=fun d os => cell_regrown (one_cell VY.out) d os;have HC0:=hdz (fun d os => in_class (w:=w64) (fun W hb => sizeO Ka u5 ot W (KT.out.xa.stay Ka hb)) d os);have HC1:=hdz (fun d os => in_class (w:=w64) (fun W hb => sizeO Kb u6 ot W (KT.out.ya.stay Kb hb)) d os);rw [world_self w64];generalize w64.drawn = d0;generalize (#[]:Array Obj) = os0;refine wp_region_class (by kernel_rfl) (by kernel_rfl) ?_;repeat (go_big_quiet_step (first | (with_reducible exact HC0.out _ _) | (with_reducible exact HC1.out _ _) | fail))
      refine wpQuiet_nil ?_;intro _ hw';obtain ⟨⟨dq,osq⟩,hw''⟩:=hw';subst hw'';have hb:=below_regrown w64 dq osq;have KTx:=hdz (KT.out.stay Ka Kb hb);have V1x:=hdz (V1.out.stay hb);have V2x:=hdz (V2.out.stay hb);have VXx:=hdz ((hb.block _ (lt_of_heap VX.out)).trans VX.out);have VYx:=hdz ((hb.block _ (lt_of_heap VY.out)).trans VY.out);clear KT V1 V2 VX VY hb;clear kcV10 kcV11 kcV20 kcV21 kcVX0 kcVY0 HC0 HC1;generalize grow (redrawn w64 dq) osq = w65 at *;clear V1x V2x VYx;obtain ⟨g8,c8,W8,g9,c9,W9,hr8,hy8,hr9,hks⟩:=KS.grewU Ka Kb KTx.out (by omega) HOT.out;have c_VX:=one_cell VXx.out;have HR8:=hdz hr8;have HR9:=hdz hr9;have KZ:=hdz hks;clear hr8 hr9 hks KTx;go_wp2_with (at_builtin;first | refine wpList_append_run rfl _ _ _ rfl _ _ _ _ rfl rfl HR8.out ?_ | refine wpList_append_run rfl _ _ _ rfl _ _ _ _ rfl rfl HR9.out ?_)
      have hL:=HI.out.2.2;have h30:=HX.out.2.2.2.1.1;subst hL;go_roundg (n - (i + 1))
      case measure => have:=HI.out;omega
      case rel => exact ⟨i + 1,g8,c8,g9,c9,ts ++ [ot],zt,_,_,ot,ot,rfl,rfl,rfl,rfl,by congr 1;unfold wrap64;omega,by omega,by rw [List.length_append,HI.out.2.1];rfl,KZ.out⟩
    focus
     have y0:((yk:Int) == 0) = false:=by simp;omega
     have y1':((yk:Int) == 1) = false:=by simp;omega
     have y2':((yk:Int) == 2) = false:=by simp;omega
     have y3:¬ yk = 0:=by omega
     have y4:¬ yk = 1:=by omega
     have y5:¬ yk = 2:=by omega
     as_aux_lemma =>
      obtain ⟨ot,hot⟩:=exq (some (srt yl));obtain ⟨zt,hzt⟩:∃ q,q = (0:Int):=⟨_,rfl⟩;have HOT:=hdz (show sz ot ≤ 101 by rw [hot];rw [show sz (some (srt yl)) = yl.length from srt_length yl];have:=HL.out;omega);have e6:=(HAC.out _ K3.out.bl).2.2.2.2.2;have HC1:=ofO Ka yA yl yc m3 (HL.out.1.below K3.out.bl) (by have:=HL.out;omega) HL.out.2.2.2;rw [← hot,← hzt,← HL.out.2.1] at HC1;have HQ:=hdz HC1;have HOZ:=hdz (anz hot hzt);clear HC1 hot hzt;go_wp2_with fail
      refine HQ.out.mono ?_;rintro e m4 ⟨u5,rfl,h1,hca,hb⟩;have t1:(store ⟨m4.heap.size,0,none⟩ u5).run Tryz.prog (m4.alloc (.cells #[.nilIface] 30)) = _:=st_new h1;have hA:=hb.alloc hb.size (.cells #[u5] 30);have K5:=hdz (K3.out.stay Ka Kb hA);have G5:=hdz (show (m4.alloc (.cells #[u5] 30)).heap[m4.heap.size]? = some (.cells #[u5] 30 (0,0)) ∧ u5.oneCell' = true ∧ CA Ta Ata (m4.alloc (.cells #[u5] 30)) u5 ot ∧ m3.heap.size ≤ m4.heap.size from ⟨heap_alloc_new m4 _,h1,hca.stay Ka (bqA _),hb.size⟩);clear hA hca hb h1 e0 HQ;have e6:=(HAC.out _ K5.out.bl).2.2.2.2.2;have HC2:=ofO Kb yA yl yc (m4.alloc (.cells #[u5] 30)) (HL.out.1.below K5.out.bl) (by have:=HL.out;omega) HL.out.2.2.2;rw [← HOZ.out.1,← HOZ.out.2,← HL.out.2.1] at HC2;have HQ:=hdz HC2;clear HC2;go_wp2_with fail
      refine HQ.out.mono ?_;rintro e m6 ⟨u6,rfl,h1,hca,hb⟩;clear t1 e6;generalize hw5:m4.alloc (.cells #[u5] 30) = m5 at *;have hA:=hb.alloc hb.size (.cells #[u6] 30);have t3:(store ⟨m6.heap.size,0,none⟩ u6).run Tryz.prog (m6.alloc (.cells #[.nilIface] 30)) = _:=st_new h1;have K7:=hdz (K5.out.stay Ka Kb hA);have F5:=(hA.block _ (lt_of_heap G5.out.1)).trans G5.out.1;have F6:=heap_alloc_new m6 (.cells #[u6] 30);have O5:=G5.out.2.1;have O6:=h1;have C5:=G5.out.2.2.1.stay Ka hA;have C6:=hca.stay Kb (bqA (.cells #[u6] 30));have HG:=hdz (show m4.heap.size ≠ w3.heap.size ∧ m6.heap.size ≠ w3.heap.size from ⟨by have:=lt_of_heap K3.out.x;have:=G5.out.2.2.2;omega,by have:=lt_of_heap K5.out.x;have:=hb.size;omega⟩);clear hA hca hb h1 HQ G5 K5;have hx7:=one_cell F5;have K8:=K7.out.putX Ka Kb C5;have t1:=st_put O5 K7.out.x;have hy7:=one_cell (var_other (b:=w3.heap.size) F6 (by have:=HG.out;omega) u5);have t2:=st_put O6 K8.y;have K9:=K8.putY Ka Kb (u:=u6) (C6.keep Kb (Kpt.set (N:=NH) K7.out.x (fun h => h.1 rfl) 0 u5) (by simp [World.setCell]));have cx:=one_cell K9.x;have KT:=hdz K9;clear K8 K9 C5 C6 F5 F6 O5 O6 K7;go_wp2_with fail
      generalize ((m6.alloc (.cells #[u6] 30)).setCell ⟨w3.heap.size,0,none⟩ u5).setCell ⟨w5.heap.size,0,none⟩ u6 = wt at *;clear hx7 hy7 t1 t2 t3 cx;obtain ⟨⟨s1,s2⟩,hsp⟩:=exq (mN ot);obtain ⟨z9,hz9⟩:=exq (eP ot);have HMa:=hdz (fun (W:World) (h:CA Ta Ata W u5 ot) => (show Calls Tryz.prog 20 #[.agg #[u5],.pointer none] W (fun e w' => e = .returned (.tuple #[.agg #[.int .i64 s1,.int .i64 s2],.int .i64 z9]) ∧ Below W.heap.size W w') from by have:=minO Ka u5 ot W h;rw [← hsp,← hz9] at this;exact this));have HMb:=hdz (fun (W:World) (h:CA Tb Atb W u6 ot) => (show Calls Tryz.prog 20 #[.agg #[u6],.pointer none] W (fun e w' => e = .returned (.tuple #[.agg #[.int .i64 s1,.int .i64 s2],.int .i64 z9]) ∧ Below W.heap.size W w') from by have:=minO Kb u6 ot W h;rw [← hsp,← hz9] at this;exact this));clear hsp hz9;refine (HMa.out _ KT.out.xa).mono ?_;rintro e w61 ⟨rfl,hb⟩;have KTx:=hdz (KT.out.stay Ka Kb hb);clear KT hb;have hb:=(Below.refl w61.heap.size w61).alloc (Nat.le_refl _) (.cells #[.int .i64 s1,.int .i64 s2] 33);have KT:=hdz (KTx.out.stay Ka Kb hb);clear KTx hb;have V1:=hdz (show Box2 (w61.alloc (.cells #[.int .i64 s1,.int .i64 s2] 33)) (w61.heap.size) 33 (.int .i64 s1) (.int .i64 s2) from new_at (by simp));have c_y:=one_cell KT.out.y;go_wp2_with fail
      clear c_y;generalize w61.alloc (.cells #[.int .i64 s1,.int .i64 s2] 33) = w62 at *;refine (HMb.out _ KT.out.ya).mono ?_;rintro e w63 ⟨rfl,hb⟩;have KTx:=hdz (KT.out.stay Ka Kb hb);have V1x:=hdz (V1.out.stay hb);clear KT V1 hb;have hb:=(Below.refl w63.heap.size w63).alloc (Nat.le_refl _) (.cells #[.int .i64 s1,.int .i64 s2] 33);have KT:=hdz (KTx.out.stay Ka Kb hb);have V1:=hdz (V1x.out.stay hb);clear KTx V1x hb;have V2:=hdz (show Box2 (w63.alloc (.cells #[.int .i64 s1,.int .i64 s2] 33)) (w63.heap.size) 33 (.int .i64 s1) (.int .i64 s2) from new_at (by simp));go_wp2_with fail
      generalize w63.alloc (.cells #[.int .i64 s1,.int .i64 s2] 33) = w64 at *;clear HMa HMb;have VX:=hdz (KT.out.x);have VY:=hdz (KT.out.y);have kcV10:=fun d os => cell_regrown (V1.out.c0) d os;have kcV11:=fun d os => cell_regrown (V1.out.c1) d os;have kcV20:=fun d os => cell_regrown (V2.out.c0) d os;have kcV21:=fun d os => cell_regrown (V2.out.c1) d os;have kcVX0:=fun d os => cell_regrown (one_cell VX.out) d os;have kcVY0:=fun d os => cell_regrown (one_cell VY.out) d os;have HC0:=hdz (fun d os => in_class (w:=w64) (fun W hb => sizeO Ka u5 ot W (KT.out.xa.stay Ka hb)) d os);have HC1:=hdz (fun d os => in_class (w:=w64) (fun W hb => sizeO Kb u6 ot W (KT.out.ya.stay Kb hb)) d os);rw [world_self w64];generalize w64.drawn = d0;generalize (#[]:Array Obj) = os0;refine wp_region_class (by kernel_rfl) (by kernel_rfl) ?_;repeat (go_big_quiet_step (first | (with_reducible exact HC0.out _ _) | (with_reducible exact HC1.out _ _) | fail))
      refine wpQuiet_nil ?_;intro _ hw';obtain ⟨⟨dq,osq⟩,hw''⟩:=hw';subst hw'';have hb:=below_regrown w64 dq osq;have KTx:=hdz (KT.out.stay Ka Kb hb);have V1x:=hdz (V1.out.stay hb);have V2x:=hdz (V2.out.stay hb);have VXx:=hdz ((hb.block _ (lt_of_heap VX.out)).trans VX.out);have VYx:=hdz ((hb.block _ (lt_of_heap VY.out)).trans VY.out);clear KT V1 V2 VX VY hb;clear kcV10 kcV11 kcV20 kcV21 kcVX0 kcVY0 HC0 HC1;generalize grow (redrawn w64 dq) osq = w65 at *;clear V1x V2x VYx;obtain ⟨g8,c8,W8,g9,c9,W9,hr8,hy8,hr9,hks⟩:=KS.grewU Ka Kb KTx.out (by omega) HOT.out;have c_VX:=one_cell VXx.out;have HR8:=hdz hr8;have HR9:=hdz hr9;have KZ:=hdz hks;clear hr8 hr9 hks KTx;go_wp2_with (at_builtin;first | refine wpList_append_run rfl _ _ _ rfl _ _ _ _ rfl rfl HR8.out ?_ | refine wpList_append_run rfl _ _ _ rfl _ _ _ _ rfl rfl HR9.out ?_)
      have hL:=HI.out.2.2;have h30:=HX.out.2.2.2.1.1;subst hL;go_roundg (n - (i + 1))
      case measure => have:=HI.out;omega
      case rel => exact ⟨i + 1,g8,c8,g9,c9,ts ++ [ot],zt,_,_,ot,ot,rfl,rfl,rfl,rfl,by congr 1;unfold wrap64;omega,by omega,by rw [List.length_append,HI.out.2.1];rfl,KZ.out⟩
  ·skip
   have i2:decide ((i:Int) < (n:Int)) = false:=by simp;omega
   go_wp2_with fail
   refine bodyPost_ret (v := .bool true) (by simp [results,Tryz.results4,go_sem]) rfl ⟨rfl,KW.out.bl⟩
theorem kinds_any (A:Option Addr) (n c:Nat) (X:Nat → ActH) (ka kb:Int) (w:World) (hr:ActRowH w A n X) (hn:n ≤ 9223372036854775807) (hX:∀ i,i < n → (X i).ok) :
  Calls Tryz.prog 4 #[.slice A n c,.int .i64 ka,.int .i64 kb] w fun e w' => e = .returned (.bool true) ∧ Below w.heap.size w w':=by
 by_cases h:fewB n X = false ∨ (fewB n X = true ∧ (ka < 1 ∨ 6 < ka ∨ kb < 1 ∨ 6 < kb))
 ·exact kinds_out A n c X ka kb w hr hn h
 have hf:fewB n X = true:=by
  cases hq:fewB n X with
  | false => exact absurd (.inl hq) h
  | true => rfl
 have h6:(1 ≤ ka ∧ ka ≤ 6) ∧ (1 ≤ kb ∧ kb ≤ 6):=by
  have:¬ (ka < 1 ∨ 6 < ka ∨ kb < 1 ∨ 6 < kb):=fun q => h (.inr ⟨hf,q⟩);omega
 obtain ⟨Ta,aI,aM,aN,aP,aS,Ata,Ka⟩:=kind_of ka h6.1;obtain ⟨Tb,bI,bM,bN,bP,bS,Atb,Kb⟩:=kind_of kb h6.2;exact kinds_good Ka Kb A n c X w hr hn hX hf h6.1 h6.2
end Go.Proofs.YtbpbadolgmbhnaaGreat
