/- Heaps whose others are heaps, in memory: a node's block of five cells (the root, the value of the queue, a skew binomial heap of the addresses of heaps' nodes, and how many elements there are); they stay where no block of the types of either turns; what becomes of a queue that is put into, melded, taken out of. No conditions beyond what each theorem says. -/
import Derived.Test.YtmeodbjlmjpnbaaGreatPua
import Derived.Test.YtmeodbjlmjpnbaaGreatPvb
import Derived.Deep.RegionHeld3
import Derived.Test.YtmeodbjlmjpnbaaGreatPa
import Derived.Deep.LoopGhost
import Derived.Handy
set_option maxRecDepth 100000
set_option maxHeartbeats 8000000
namespace Go.Proofs.YtmeodbjlmjpnbaaGreat.U.Bo
open Go.Sort Go.RowKit Go.Proofs.YtmeodbjlmjpnbaaGreat.U.Gn
theorem alloc_old {w:World} {k:Nat} (o:Obj) (h:k < w.heap.size):(w.alloc o).heap[k]? = w.heap[k]?:=((Below.refl w.heap.size w).alloc (Nat.le_refl _) o).block k h
theorem heap_other {W:World} {b k:Nat} (j:Nat) (v:Value) (h:k ≠ b):(W.setCell ⟨b,j,none⟩ v).heap[k]? = W.heap[k]?:=Below.heap_setCell W ⟨b,j,none⟩ v k h
abbrev NodeT:TypeId → Prop:=Hp.NodeT
abbrev Kp (W W':World):Prop:=Kpt NodeT W W'
theorem node_ne:¬ NodeT 89 := Hp.node_ne
theorem heapT_ne:¬ NodeT 127 := by unfold NodeT Hp.NodeT TreeT;decide
abbrev Qh:=Go.Proofs.YtmeodbjlmjpnbaaGreat.U.Lh
def heaps (o:Qh):List (Gn.Tre Lh):=o.ts.map (Gn.Tre.map Thing.h)
theorem heaps_all (o:Qh):Gn.bAll (heaps o) = o.all.map Thing.h:=Gn.bAll_map _ _
theorem heaps_size (o:Qh):Gn.bSize (heaps o) = o.size:=Gn.bSize_map _ _
def nodeObj (x:Int × Int) (q:Hp.HP) (n:Int):Obj := .cells #[.int .i64 x.1,.int .i64 x.2,.pointer q.q,.int .i64 q.n,.int .i64 n] 259 (0,0)
inductive LAt0 (W:World):Lh → Option Addr → Prop
 | nil:LAt0 W .nil none
 | node {x:Int × Int} {a:Nat} {q:Hp.HP} {o:Qh} (hb:W.heap[a]? = some (nodeObj x q ((Lh.node x (heaps o)).size:Nat))) (hq:Hp.LAt W o q) (hs:∀ b ∈ o.all,LAt0 W b.h (some ⟨b.a,0,none⟩)):LAt0 W (.node x (heaps o)) (some ⟨a,0,none⟩)
structure LAt (W:World) (t:Lh) (p:Option Addr):Prop where
 lies:LAt0 W t p
 right:t.ok
 small:t.size ≤ 268435456
abbrev hp (p:Option Addr):Value := .agg #[.pointer p]
section
variable {W W':World} {mo:Option Nat} {c m:Int}
theorem LAt0.kps (h:Kp W W') (hs:W.heap.size ≤ W'.heap.size) {t:Lh} {p:Option Addr} (hn:LAt0 W t p):LAt0 W' t p:=by
 induction hn with
 | nil => exact .nil
 | node hb hq _ ih => exact .node (h _ _ _ (.inl (.inr (.inr (.inr rfl)))) hb) (hq.kps h hs) ih
theorem LAt.kps {t:Lh} {p:Option Addr} (hn:LAt W t p) (h:Kp W W') (hs:W.heap.size ≤ W'.heap.size):LAt W' t p:=⟨hn.lies.kps h hs,hn.right,hn.small⟩
theorem LAt0.stay {t:Lh} {p:Option Addr} (hn:LAt0 W t p) (h:Below W.heap.size W W'):LAt0 W' t p:=hn.kps (Kpt.below h) h.size
theorem LAt.stay {t:Lh} {p:Option Addr} (hn:LAt W t p) (h:Below W.heap.size W W'):LAt W' t p:=hn.kps (Kpt.below h) h.size
theorem LAt.bt {t:Lh} {p:Option Addr} (h:LAt W t p) (hb:Bt mo W W') (hm:MAt W mo c m):LAt W' t p:=h.kps (hb.kpt hm node_ne) hb.size
theorem LAt.none (w:World):LAt w .nil Option.none:=⟨.nil,ok_nil,by decide⟩
theorem LAt.no {p:Option Addr} (h:LAt W .nil p):p = Option.none:=by
 have:=h.lies
 cases this
 rfl
theorem size_set1 (W:World) (a:Addr) (u:Value):(W.setCell a u).heap.size = W.heap.size:=by simp [World.setCell]
theorem LAt.wrote {t:Lh} {p:Option Addr} (hn:LAt W t p) {g:Nat} {cs:Array Value} {ty:TypeId} {z:Nat × Nat} (hg:W.heap[g]? = some (.cells cs ty z)) (ht:¬ NodeT ty) (off:Nat) (u:Value):LAt (W.setCell ⟨g,off,Option.none⟩ u) t p :=
 hn.kps (Kpt.set hg ht off u) (by rw [size_set1];exact Nat.le_refl _)
theorem LAt.parts {x:Int × Int} {q:List (Gn.Tre Lh)} {p:Option Addr} (h:LAt W (.node x q) p):∃ (a:Nat) (s:Hp.HP) (o:Qh),p = some ⟨a,0,Option.none⟩ ∧ W.heap[a]? = some (nodeObj x s ((Lh.node x q).size:Nat)) ∧ Hp.LAt W o s ∧ (∀ b ∈ o.all,LAt0 W b.h (some ⟨b.a,0,Option.none⟩)) ∧ q = heaps o:=by
 have:=h.lies
 cases this with
 | node hb hq hs => exact ⟨_,_,_,rfl,hb,hq,hs,rfl⟩
structure Four (W:World) (b:Nat) (x:Int × Int) (q:Hp.HP) (n:Int):Prop where
 c0:W.cell? ⟨b,0,none⟩ = some (.int .i64 x.1)
 c1:W.cell? ⟨b,1,none⟩ = some (.int .i64 x.2)
 c2:W.cell? ⟨b,2,none⟩ = some (.pointer q.q)
 c3:W.cell? ⟨b,3,none⟩ = some (.int .i64 q.n)
 c4:W.cell? ⟨b,4,none⟩ = some (.int .i64 n)
theorem four {b:Nat} {x:Int × Int} {q:Hp.HP} {n:Int} (h:W.heap[b]? = some (nodeObj x q n)):Four W b x q n:=by
 constructor <;> simp [World.cell?,h,nodeObj]
theorem four_kp {b:Nat} {x:Int × Int} {q:Hp.HP} {n:Int} (h:W.heap[b]? = some (nodeObj x q n)) (hk:Kp W W'):Four W' b x q n:=four (hk b _ _ (.inl (.inr (.inr (.inr rfl)))) h)
def HVar (W:World) (b:Nat) (p:Option Addr):Prop:=W.heap[b]? = some (.cells #[.pointer p] 127 (0,0))
theorem HVar.bt {b:Nat} {p:Option Addr} (h:HVar W b p) (hb:Bt mo W W') (hm:MAt W mo c m):HVar W' b p:=hb.row hm h (by decide)
theorem HVar.c0 {b:Nat} {p:Option Addr} (h:HVar W b p):W.cell? ⟨b,0,none⟩ = some (.pointer p):=by unfold HVar at h;simp [World.cell?,h]
theorem HVar.z0 {b:Nat} {p:Option Addr} (h:HVar W b p):W.frozen? ⟨b,0,none⟩ = false:=by unfold HVar at h;simp [World.frozen?,h]
theorem HVar.put {b:Nat} {p:Option Addr} (h:HVar W b p) (q:Option Addr):HVar (W.setCell ⟨b,0,none⟩ (.pointer q)) b q:=heap_put (j:=0) h _
theorem HVar.set {b':Nat} {p:Option Addr} (h:HVar W b' p) {b:Nat} (hne:b' ≠ b) (off:Nat) (u:Value):HVar (W.setCell ⟨b,off,none⟩ u) b' p:=(heap_other _ _ hne).trans h
theorem thing_key {x:Int × Int} {q:List (Gn.Tre Lh)} {a:Nat} (h:LAt0 W (.node x q) (some ⟨a,0,none⟩)):KeyC W ⟨.node x q,a⟩:=by
 cases h with
 | node hb hq hs => exact ⟨_,_,_,hb⟩
theorem queue_small_of {x:Int × Int} {o:Qh} (hk:(Lh.node x (heaps o)).ok):o.size + 1 ≤ (Lh.node x (heaps o)).size:=by
 cases hk with
 | node h1 h2 h3 =>
  have:=queue_le _ fun b hb => (h3 b hb).1;rw [Gn.bAll_length,heaps_size] at this;rw [size_all,all_node,List.length_cons];omega
theorem key_same (x:Thing):Gn.Key.key x.h = Gn.Key.key x:=rfl
theorem heaps_insert (o:Qh) (y:Thing):heaps (o.insert y) = Gn.sIns (heaps o) y.h:=(Gn.sIns_map Thing.h key_same o.ts y).symm
theorem insert_counts (o:Qh):o.insC = Gn.sInsN (heaps o) ∧ o.insM = Gn.sInsM (heaps o):=by
 have h:=Gn.sInsN_map Thing.h o.ts;exact ⟨h.1.symm,h.2.symm⟩
theorem insert_lies {o:Qh} {y:Thing} (h:∀ b ∈ o.all,LAt0 W b.h (some ⟨b.a,0,none⟩)) (hy:LAt0 W y.h (some ⟨y.a,0,none⟩)):∀ b ∈ (o.insert y).all,LAt0 W b.h (some ⟨b.a,0,none⟩):=by
 intro b hb;rcases List.mem_cons.1 ((Go.Proofs.YtmeodbjlmjpnbaaGreat.U.insert_all o y).subset hb) with rfl | hb
 ·exact hy
 ·exact h b hb
theorem heaps_meld (a b:Qh):heaps (Go.Proofs.YtmeodbjlmjpnbaaGreat.U.meld a b) = Gn.smeld (heaps a) (heaps b) ∧ Go.Proofs.YtmeodbjlmjpnbaaGreat.U.meldN a b = Gn.smeldN (heaps a) (heaps b):=by
 have h:=Gn.smeld_map Thing.h key_same a.ts b.ts;exact ⟨h.1.symm,h.2.symm⟩
theorem meld_lies {a b:Qh} (ha:∀ x ∈ a.all,LAt0 W x.h (some ⟨x.a,0,none⟩)) (hb:∀ x ∈ b.all,LAt0 W x.h (some ⟨x.a,0,none⟩)):∀ x ∈ (Go.Proofs.YtmeodbjlmjpnbaaGreat.U.meld a b).all,LAt0 W x.h (some ⟨x.a,0,none⟩):=by
 intro x hx;rcases List.mem_append.1 ((Go.Proofs.YtmeodbjlmjpnbaaGreat.U.meld_all a b).subset hx) with h | h
 ·exact ha x h
 ·exact hb x h
theorem heaps_pop (o:Qh):heaps o.pop = Gn.sPop (heaps o) ∧ o.popC = Gn.sPopN (heaps o) ∧ o.popM = Gn.sPopM (heaps o):=by
 have h:=Gn.sPop_map Thing.h key_same o.ts;exact ⟨h.1.symm,h.2.1.symm,h.2.2.symm⟩
theorem heaps_len (o:Qh):(heaps o).length = o.ts.length:=List.length_map ..
theorem heaps_least {o:Qh} (h:o.ts ≠ []):least (heaps o) = o.min.1.h:=Gn.bMin_map Thing.h key_same h
theorem pop_lies {o:Qh} (h:∀ b ∈ o.all,LAt0 W b.h (some ⟨b.a,0,none⟩)) (hne:o.ts ≠ []):LAt0 W o.min.1.h (some ⟨o.min.1.a,0,none⟩) ∧ ∀ b ∈ o.pop.all,LAt0 W b.h (some ⟨b.a,0,none⟩):=by
 have hp:=Gn.spop_all hne;exact ⟨h _ (hp.symm.subset (List.mem_cons_self ..)),fun b hb => h b (hp.symm.subset (List.mem_cons_of_mem _ hb))⟩
end
def Gave (mo:Option Nat) (c m:Int) (t:Lh) (w:World) (e:Ending) (w':World):Prop:=∃ p,e = .returned (hp p) ∧ LAt w' t p ∧ MAt w' mo c m ∧ Bt mo w w'
end Go.Proofs.YtmeodbjlmjpnbaaGreat.U.Bo
namespace Go.Proofs.YtmeodbjlmjpnbaaGreat.U.Bo
open Go.Sort Go.RowKit Go.Proofs.YtmeodbjlmjpnbaaGreat.U.Gn
def EVar (W:World) (b:Nat) (x:Int × Int):Prop:=W.heap[b]? = some (.cells #[.int .i64 x.1,.int .i64 x.2] 29 (0,0))
section
variable {W W':World} {mo:Option Nat} {c m:Int}
theorem EVar.bt {b:Nat} {x:Int × Int} (h:EVar W b x) (hb:Bt mo W W') (hm:MAt W mo c m):EVar W' b x:=hb.row hm h (by decide)
theorem EVar.c0 {b:Nat} {x:Int × Int} (h:EVar W b x):W.cell? ⟨b,0,none⟩ = some (.int .i64 x.1):=by unfold EVar at h;simp [World.cell?,h]
theorem EVar.c1 {b:Nat} {x:Int × Int} (h:EVar W b x):W.cell? ⟨b,1,none⟩ = some (.int .i64 x.2):=by unfold EVar at h;simp [World.cell?,h]
theorem EVar.z0 {b:Nat} {x:Int × Int} (h:EVar W b x):W.frozen? ⟨b,0,none⟩ = false:=by unfold EVar at h;simp [World.frozen?,h]
theorem EVar.z1 {b:Nat} {x:Int × Int} (h:EVar W b x):W.frozen? ⟨b,1,none⟩ = false:=by unfold EVar at h;simp [World.frozen?,h]
theorem EVar.new (W:World) (x1 x2:Int) {n:Nat} (h:n = W.heap.size):EVar (W.alloc (.cells #[.int .i64 x1,.int .i64 x2] 29)) n (x1,x2):=new_at h
theorem EVar.lt {b:Nat} {x:Int × Int} (h:EVar W b x):b < W.heap.size:=lt_of_heap h
theorem EVar.put {b:Nat} {x:Int × Int} (h:EVar W b x) (y1 y2:Int):EVar ((W.setCell ⟨b,0,none⟩ (.int .i64 y1)).setCell ⟨b,1,none⟩ (.int .i64 y2)) b (y1,y2):=heap_put (j:=1) (heap_put (j:=0) h _) _
theorem EVar.alloc {b:Nat} {x:Int × Int} (h:EVar W b x) (o:Obj):EVar (W.alloc o) b x:=(alloc_old o (lt_of_heap h)).trans h
theorem EVar.stay {b:Nat} {x:Int × Int} (h:EVar W b x) (hb:Below W.heap.size W W'):EVar W' b x:=(hb.block _ (lt_of_heap h)).trans h
theorem EVar.aside {b g:Nat} {x:Int × Int} (h:EVar W b x) (hne:b ≠ g) (u v:Value):EVar ((W.setCell ⟨g,0,none⟩ u).setCell ⟨g,1,none⟩ v) b x:=(heap_other _ _ hne).trans ((heap_other _ _ hne).trans h)
end
abbrev minV (t:Lh):Value := .tuple #[el t.min.1,.bool t.min.2]
theorem min_any (t:Lh) (p:Option Addr) (m:Value) (w:World) (h:LAt w t p):Calls Tryz.prog 371 #[hp p,m] w fun e w' => e = .returned (minV t) ∧ Below w.heap.size w w':=by
 cases t with
 | nil =>
  obtain rfl:=h.no;go_enter Tryz.func371,Tryz.ntmps371
  go_wp2
  refine bodyPost_ret (v:=minV .nil) (by simp [results,Tryz.results371,go_sem,Lh.min]) rfl ⟨rfl,?_⟩;exact ((Below.refl w.heap.size w).alloc (Nat.le_refl _) _).alloc (by simp) _
 | node x o =>
  obtain ⟨b,q, -,rfl,hb, -⟩:=h.parts;obtain ⟨x1,x2⟩:=x;have hk:=four_kp (W':=(w.alloc (.cells #[.pointer (some ⟨b,0,none⟩)] 127)).alloc (.cells #[.int .i64 0,.int .i64 0] 29)) hb (Kpt.below ((bqA _).alloc (by simp) _));have c0:=hk.c0;have c1:=hk.c1;clear hk hb;go_enter Tryz.func371,Tryz.ntmps371
  go_wp2
  refine bodyPost_ret (v:=minV (.node (x1,x2) o)) (by simp [results,Tryz.results371,go_sem,Lh.min]) rfl ⟨rfl,?_⟩;exact ((Below.refl w.heap.size w).alloc (Nat.le_refl _) _).alloc (by simp) _
theorem build_any (mo:Option Nat) (c m:Int) (x1 x2:Int) (o:Qh) (q:Hp.HP) (n:Int) (w:World) (hn:n = ((Lh.node (x1,x2) (heaps o)).size:Nat)) (hm:MAt w mo c m) (h2:0 ≤ m) (h3:m < 4611686018427387904) (hk:Hp.LAt w o q) (hl:∀ b ∈ o.all,LAt0 w b.h (some ⟨b.a,0,none⟩)) (hok:(Lh.node (x1,x2) (heaps o)).ok) (hsm:(Lh.node (x1,x2) (heaps o)).size ≤ 268435456) :
  Calls Tryz.prog 123 #[mAddr mo,.agg #[.int .i64 x1,.int .i64 x2,.pointer q.q,.int .i64 q.n,.int .i64 n]] w (Gave mo c (m + 1) (.node (x1,x2) (heaps o)) w):=by
 have hb1:Below w.heap.size w ((w.alloc (nodeObj (x1,x2) q n)).alloc (.cells #[.pointer none] 127)):=(bqA _).alloc (by simp) _;have e1:((w.alloc (nodeObj (x1,x2) q n)).alloc (.cells #[.pointer none] 127)).heap[w.heap.size]? = some (nodeObj (x1,x2) q n):=(alloc_old _ (by simp)).trans (new_at rfl);have e2:((w.alloc (nodeObj (x1,x2) q n)).alloc (.cells #[.pointer none] 127)).heap[w.heap.size + 1]? = some (.cells #[.pointer none] 127 (0,0)):=new_at (by simp);have K1:Trk NodeT mo w c m ((w.alloc (nodeObj (x1,x2) q n)).alloc (.cells #[.pointer none] 127)):=(Trk.refl hm).stay hb1;have HX:=hdz (anz K1 (anz e1 (anz e2 (anz hk (anz hl (anz hok (anz hsm hn)))))));clear hb1 e1 e2 K1 hk hm hl hok hsm hn;unfold nodeObj at HX;go_enter Tryz.func123,Tryz.ntmps123
 go_wp2_with fail
 generalize (w.alloc _).alloc (.cells #[.pointer none] 127) = w1 at *;obtain ⟨a,ha⟩:=exq (w.heap.size);rw [← ha] at HX ⊢;have HA:=hdz ha;clear ha;((with_reducible refine (mMade mo c m _ HX.out.1.mt h2 h3).mono ?_);rintro e w2 ⟨rfl,hm2,hb2⟩);have K2:=HX.out.1.turn hm2 hb2 node_ne;have R2:=hb2.row HX.out.1.mt HX.out.2.2.1 (by decide);have N2:=hb2.row HX.out.1.mt HX.out.2.1 (by decide);have r0:w2.cell? ⟨a + 1,0,none⟩ = some (.pointer none):=by simp [World.cell?,R2]
 have z0:w2.frozen? ⟨a + 1,0,none⟩ = false:=by simp [World.frozen?,R2]
 have Y:=hdz (anz K2 (anz R2 N2));clear hm2 hb2 K2 R2 N2;go_wp2_with fail
 have hk:=(Y.out.1.put Y.out.2.1 heapT_ne (by decide) (by rw [← HA.out];omega) 0 (.pointer (some ⟨a,0,none⟩)));refine bodyPost_ret (v:=hp (some ⟨a,0,none⟩)) (by simp [results,Tryz.results123,go_sem,r0]) rfl ⟨_,rfl,?_,hk.mt,hk.bt⟩;refine ⟨LAt0.node (q:=q) ?_ (Hp.LAt.kps HX.out.2.2.2.1 hk.kp hk.bt.size) (fun b hb => (HX.out.2.2.2.2.1 b hb).kps hk.kp hk.bt.size),HX.out.2.2.2.2.2.1,HX.out.2.2.2.2.2.2.1⟩;rw [heap_other _ _ (by omega),Y.out.2.2,HX.out.2.2.2.2.2.2.2];rfl
end Go.Proofs.YtmeodbjlmjpnbaaGreat.U.Bo
namespace Go.Proofs.YtmeodbjlmjpnbaaGreat.U.Bo
open Go.Sort Go.RowKit Go.Proofs.YtmeodbjlmjpnbaaGreat.U.Gn
def Lh.pre:Lh → List ((Int × Int) × Nat)
 | .nil => []
 | .node x q => (x,(Lh.node x q).size) :: ((Gn.bAll q).attach.map fun b => b.1.pre).flatten
termination_by h => SizeOf.sizeOf h
decreasing_by
 have:=queue_small q b.1 b.2;rw [Lh.node.sizeOf_spec];omega
def sizes (l:List Lh):Nat:=(l.map Lh.size).sum
theorem sizes_cons (b:Lh) (l:List Lh):sizes (b :: l) = b.size + sizes l:=by simp [sizes]
theorem flat_len (l:List Lh):(l.flatMap Lh.els).length = sizes l:=by
 induction l with
 | nil => rfl
 | cons b l ih => rw [List.flatMap_cons,List.length_append,ih,sizes_cons,els_eq,Lh.all_length]
theorem node_size (x:Int × Int) (q:List (Gn.Tre Lh)):(Lh.node x q).size = sizes (Gn.bAll q) + 1:=by show ((Gn.bAll q).flatMap Lh.els).length + 1 = _;rw [flat_len]
end Go.Proofs.YtmeodbjlmjpnbaaGreat.U.Bo
namespace Go.Proofs.YtmeodbjlmjpnbaaGreat.U.Bo
open Go.Sort Go.RowKit Go.Proofs.YtmeodbjlmjpnbaaGreat.U.Gn
theorem size_any (t:Lh) (p:Option Addr) (w:World) (h:LAt w t p):Calls Tryz.prog 373 #[hp p] w fun e w' => e = .returned (.int .i64 (t.size:Nat)) ∧ Below w.heap.size w w':=by
 have hb1:Below w.heap.size w (w.alloc (.cells #[.pointer p] 127)):=bqA _
 cases t with
 | nil =>
  obtain rfl:=h.no;go_enter Tryz.func373,Tryz.ntmps373
  go_wp2_with fail
  go_ret
  exact ⟨rfl,hb1⟩
 | node x q =>
  obtain ⟨b,s,o,rfl,hb, -, -,rfl⟩:=h.parts;obtain ⟨n,hn⟩:=exq ((Lh.node x (heaps o)).size);rw [← hn] at hb ⊢;have hk:=four_kp (W':=w.alloc (.cells #[.pointer (some ⟨b,0,none⟩)] 127)) hb (Kpt.below hb1);have c4:=hk.c4;have HB:=hdz hb1;clear hk hb hn hb1 h;go_enter Tryz.func373,Tryz.ntmps373
  go_wp2_with fail
  go_ret
  exact ⟨rfl,HB.out⟩
theorem ty_ne {W:World} {g b:Nat} {cur cur':Array Value} {e e':TypeId} {z z':Nat × Nat} (hg:W.heap[g]? = some (.cells cur e z)) (hb:W.heap[b]? = some (.cells cur' e' z')) (hne:e ≠ e'):¬ g = b:=by
 rintro rfl;rw [hg] at hb
 cases hb
 exact hne rfl
structure Fm (W:World) (a:Nat) (p q:Option Addr):Prop where
 h:HVar W a p
 o:HVar W (a + 1) q
 r:HVar W (a + 2) none
theorem Fm.new (w:World) (p q:Option Addr):Fm (((w.alloc (.cells #[.pointer p] 127)).alloc (.cells #[.pointer q] 127)).alloc (.cells #[.pointer none] 127)) w.heap.size p q:=by
 refine ⟨?_,?_,?_⟩
 ·show _ = _;rw [alloc_old _ (by simp only [World.size_alloc];omega),alloc_old _ (by simp only [World.size_alloc];omega)];exact new_at rfl
 ·show _ = _;rw [alloc_old _ (by simp only [World.size_alloc];omega)];exact new_at (by simp)
 ·exact new_at (by simp)
theorem new3 (w:World) (o1 o2 o3:Obj):Below w.heap.size w (((w.alloc o1).alloc o2).alloc o3):=((bqA _).alloc (by simp) _).alloc (by simp only [World.size_alloc];omega) _
theorem meld_left (mo:Option Nat) (tb:Lh) (c m:Int) (pd:Option Addr) (w:World) (hm:MAt w mo c m) (hb:LAt w tb pd):Calls Tryz.prog 124 #[hp none,mAddr mo,hp pd] w (Gave mo c m tb w):=by
 have hbe:=new3 w (.cells #[.pointer none] 127) (.cells #[.pointer pd] 127) (.cells #[.pointer pd] 127);have F:=Fm.new w none pd;have c0:=F.o.c0;have r0:=F.r.c0;have z0:=F.r.z0;have X:=hdz (anz (hb.stay hbe) (anz (hm.stay hbe) hbe));clear F hm hb hbe;go_enter Tryz.func124,Tryz.ntmps124
 go_wp2_with fail
 exact bodyPost_ret (v:=hp pd) (by simp [results,Tryz.results124,go_sem]) rfl ⟨_,rfl,X.out.1,X.out.2.1,Bt.ofBelow X.out.2.2⟩
theorem meld_rightM (mo:Option Nat) (ta:Lh) (c m:Int) (b:Nat) (w:World) (hm:MAt w mo c m) (hb:LAt w ta (some ⟨b,0,none⟩)):Calls Tryz.prog 124 #[hp (some ⟨b,0,none⟩),mAddr mo,hp none] w (Gave mo c m ta w):=by
 have hbe:=new3 w (.cells #[.pointer (some ⟨b,0,none⟩)] 127) (.cells #[.pointer none] 127) (.cells #[.pointer (some ⟨b,0,none⟩)] 127);have F:=Fm.new w (some ⟨b,0,none⟩) none;have c0:=F.h.c0;have r0:=F.r.c0;have z0:=F.r.z0;have X:=hdz (anz (hb.stay hbe) (anz (hm.stay hbe) hbe));clear F hm hb hbe;go_enter Tryz.func124,Tryz.ntmps124
 go_wp2_with fail
 exact bodyPost_ret (v:=hp (some ⟨b,0,none⟩)) (by simp [results,Tryz.results124,go_sem]) rfl ⟨_,rfl,X.out.1,X.out.2.1,Bt.ofBelow X.out.2.2⟩
structure Nod (W:World) (x:Int × Int) (o:Qh) (b:Nat) (s:Hp.HP) (n:Nat):Prop where
 blk:W.heap[b]? = some (nodeObj x s (n:Int))
 q:Hp.LAt W o s
 all:∀ e ∈ o.all,LAt0 W e.h (some ⟨e.a,0,none⟩)
 size:n = (Lh.node x (heaps o)).size
 ok:(Lh.node x (heaps o)).ok
theorem Nod.of {W:World} {x:Int × Int} {q:List (Gn.Tre Lh)} {p:Option Addr} (h:LAt W (.node x q) p):∃ (o:Qh) (b:Nat) (s:Hp.HP) (n:Nat),q = heaps o ∧ p = some ⟨b,0,none⟩ ∧ Nod W x o b s n:=by
 obtain ⟨b,s,o,hp,hb,hq,hs,rfl⟩:=h.parts;exact ⟨o,b,s,_,rfl,hp,⟨hb,hq,hs,rfl,h.right⟩⟩
section
variable {W W':World} {x:Int × Int} {o:Qh} {b:Nat} {s:Hp.HP} {n:Nat} {mo:Option Nat} {c m:Int}
theorem Nod.kps (h:Nod W x o b s n) (hk:Kp W W') (hs:W.heap.size ≤ W'.heap.size):Nod W' x o b s n:=⟨hk _ _ _ (.inl (.inr (.inr (.inr rfl)))) h.blk,h.q.kps hk hs,fun e he => (h.all e he).kps hk hs,h.size,h.ok⟩
theorem Nod.stay (h:Nod W x o b s n) (hb:Below W.heap.size W W'):Nod W' x o b s n:=h.kps (Kpt.below hb) hb.size
theorem Nod.bt (h:Nod W x o b s n) (hb:Bt mo W W') (hm:MAt W mo c m):Nod W' x o b s n:=h.kps (hb.kpt hm node_ne) hb.size
theorem Nod.four (h:Nod W x o b s n):Four W b x s (n:Int):=Bo.four h.blk
theorem Nod.lies (h:Nod W x o b s n):LAt0 W (.node x (heaps o)) (some ⟨b,0,none⟩) := .node (h.size ▸ h.blk) h.q h.all
theorem Nod.key (h:Nod W x o b s n):KeyC W ⟨.node x (heaps o),b⟩:=thing_key h.lies
theorem Nod.qs (h:Nod W x o b s n):o.size + 1 ≤ n:=by have:=queue_small_of h.ok;rw [h.size];exact this
end
theorem meld_ltQ {x y:Int × Int} {ox oy:Qh} (b:Nat) (hv:ltE y x = true):meld (.node x (heaps ox)) (.node y (heaps oy)) = .node y (heaps (oy.insert ⟨.node x (heaps ox),b⟩)) ∧ meldC (.node x (heaps ox)) (.node y (heaps oy)) = oy.insC + 1 ∧ meldM (.node x (heaps ox)) (.node y (heaps oy)) = oy.insM + 1:=by
 refine ⟨by rw [meld_lt hv,heaps_insert],?_,?_⟩
 ·show (if ltE y x = true then _ else _) = _;rw [if_pos hv,(insert_counts oy).1]
 ·show (if ltE y x = true then _ else _) = _;rw [if_pos hv,(insert_counts oy).2]
theorem meld_geQ {x y:Int × Int} {ox oy:Qh} (b:Nat) (hv:ltE y x = false):meld (.node x (heaps ox)) (.node y (heaps oy)) = .node x (heaps (ox.insert ⟨.node y (heaps oy),b⟩)) ∧ meldC (.node x (heaps ox)) (.node y (heaps oy)) = ox.insC + 1 ∧ meldM (.node x (heaps ox)) (.node y (heaps oy)) = ox.insM + 1:=by
 have hn:¬ ltE y x = true:=by simp [hv]
 refine ⟨by rw [meld_ge hv,heaps_insert],?_,?_⟩
 ·show (if ltE y x = true then _ else _) = _;rw [if_neg hn,(insert_counts ox).1]
 ·show (if ltE y x = true then _ else _) = _;rw [if_neg hn,(insert_counts ox).2]
theorem meld_lt_any (mo:Option Nat) (c m:Int) (x1 x2 y1 y2:Int) (ox oy:Qh) (p1 p2:Nat) (sx sy:Hp.HP) (nx ny:Nat) (w:World) (hs:nx + ny < 134217728) (hm:MAt w mo c m) (h0:0 ≤ c) (h1:c < 144115188075855872) (h2:0 ≤ m) (h3:m < 144115188075855872)
  (hx:Nod w (x1,x2) ox p1 sx nx) (hy:Nod w (y1,y2) oy p2 sy ny) (hv:ltE (y1,y2) (x1,x2) = true) :
  Calls Tryz.prog 124 #[hp (some ⟨p1,0,none⟩),mAddr mo,hp (some ⟨p2,0,none⟩)] w (Gave mo (c + meldC (.node (x1,x2) (heaps ox)) (.node (y1,y2) (heaps oy))) (m + meldM (.node (x1,x2) (heaps ox)) (.node (y1,y2) (heaps oy))) (meld (.node (x1,x2) (heaps ox)) (.node (y1,y2) (heaps oy))) w):=by
 obtain ⟨w1,hw1⟩:=exq (((w.alloc (.cells #[.pointer (some ⟨p1,0,none⟩)] 127)).alloc (.cells #[.pointer (some ⟨p2,0,none⟩)] 127)).alloc (.cells #[.pointer none] 127));have hb1:Below w.heap.size w w1:=by rw [hw1];exact new3 w _ _ _
 have F1:Fm w1 w.heap.size (some ⟨p1,0,none⟩) (some ⟨p2,0,none⟩):=by rw [hw1];exact Fm.new w _ _
 have HF:=hdz F1;have X:=hdz (anz ((Trk.refl (N:=NodeT) hm).stay hb1) (Bt.refl mo w1));have HX:=hdz (hx.stay hb1);have HY:=hdz (hy.stay hb1);obtain ⟨iC,hiC⟩:=exq (oy.insC);obtain ⟨iM,hiM⟩:=exq (oy.insM);have HI:=hdz (show iC = oy.insC ∧ iM = oy.insM ∧ iC ≤ 2 ∧ iM ≤ 2 from ⟨hiC,hiM,hiC ▸ Go.Proofs.YtmeodbjlmjpnbaaGreat.U.insC_le _,hiM ▸ Go.Proofs.YtmeodbjlmjpnbaaGreat.U.insM_le _⟩);have eq:=meld_ltQ (x:=(x1,x2)) (y:=(y1,y2)) (ox:=ox) (oy:=oy) p1 hv;rw [← hiC,← hiM] at eq;rw [eq.1,eq.2.1,eq.2.2];have hok:(Lh.node (y1,y2) (heaps (oy.insert ⟨.node (x1,x2) (heaps ox),p1⟩))).ok:=eq.1 ▸ meld_ok _ _ hx.ok hy.ok;have hsz:(Lh.node (y1,y2) (heaps (oy.insert ⟨.node (x1,x2) (heaps ox),p1⟩))).size = nx + ny:=by rw [← eq.1,meld_size,hx.size,hy.size]
 obtain ⟨o5,ho5⟩:=exq (oy.insert ⟨.node (x1,x2) (heaps ox),p1⟩);rw [← ho5] at hok hsz ⊢;have HR:=hdz (anz hok (anz hsz ho5));have HN:=hdz (anz hs (anz h0 (anz h1 (anz h2 h3))));have HV:=hdz hv;have HW:=hdz hw1;clear hs h0 h1 h2 h3 F1 hb1 hm hw1 hx hy hv hiC hiM eq hok hsz ho5;go_enter Tryz.func124,Tryz.ntmps124
 go_wp2_with fail
 rw [← HW.out];obtain ⟨a,ha⟩:=exq (w.heap.size);rw [← ha] at HF ⊢;have HA:=hdz ha;clear ha HW
 have HS:=hdz (fun W (hz:Bt mo w1 W) => (show W.cell? ⟨a,0,none⟩ = some (.pointer (some ⟨p1,0,none⟩)) ∧ W.cell? ⟨a + 1,0,none⟩ = some (.pointer (some ⟨p2,0,none⟩)) ∧ Four W p1 (x1,x2) sx (nx:Int) ∧ Four W p2 (y1,y2) sy (ny:Int) ∧ HVar W (a + 2) none from
  ⟨(HF.out.h.bt hz X.out.1.mt).c0,(HF.out.o.bt hz X.out.1.mt).c0,(HX.out.bt hz X.out.1.mt).four,(HY.out.bt hz X.out.1.mt).four,HF.out.r.bt hz X.out.1.mt⟩))
 have HQ:=hdz (fun W (hz:Bt mo w1 W) => anz (HX.out.bt hz X.out.1.mt) (HY.out.bt hz X.out.1.mt));have d1:¬ p1 = a + 1 + 1:=ty_ne HX.out.blk HF.out.r (by decide);have d2:¬ p2 = a + 1 + 1:=ty_ne HY.out.blk HF.out.r (by decide);have d3:¬ a + 1 + 1 = p1:=fun e => d1 e.symm;have d4:¬ a + 1 + 1 = p2:=fun e => d2 e.symm;clear HX HY HF;obtain ⟨f0,f1, -⟩:=HS.out _ X.out.2;go_region_held3 (fun w' => w'.cell? ⟨a,0,none⟩ = some (.pointer (some ⟨p1,0,none⟩)) ∧ w'.cell? ⟨a + 1,0,none⟩ = some (.pointer (some ⟨p2,0,none⟩))) (go_keep) (fail)
 have X2:=hdz (anz X.out.1.drew X.out.2.drew);clear X f0 f1;obtain ⟨w2,hw2⟩:=exq (w1.drew);rw [← hw2] at X2 ⊢;clear hw2;obtain ⟨f0,f1,k1,k2, -⟩:=HS.out _ X2.out.2;have x0:=k1.c0;have x1':=k1.c1;have y0:=k2.c0;have y1':=k2.c1;clear k1 k2;go_wp2_with fail
 go_region_held3 (fun w' => w'.cell? ⟨a,0,none⟩ = some (.pointer (some ⟨p1,0,none⟩)) ∧ w'.cell? ⟨a + 1,0,none⟩ = some (.pointer (some ⟨p2,0,none⟩)) ∧ w'.cell? ⟨p1,0,none⟩ = some (.int .i64 x1) ∧ w'.cell? ⟨p1,1,none⟩ = some (.int .i64 x2) ∧ w'.cell? ⟨p2,0,none⟩ = some (.int .i64 y1) ∧ w'.cell? ⟨p2,1,none⟩ = some (.int .i64 y2)) (go_keep)
  (first | (go_at_call 140;((with_reducible refine (mLess mo c m (y1,y2) (x1,x2) _ X2.out.1.drew.mt HN.out.2.1 (by have:=HN.out;omega)).mono ?_);rintro e w3 ⟨rfl,hm3,hb3⟩;rw [HV.out];have X3:=hdz (anz (X2.out.1.drew.turn hm3 hb3 node_ne) (X2.out.2.drew.trans hb3));obtain ⟨g0,g1,k1,k2, -⟩:=HS.out _ X3.out.2;have u0:=k1.c0;have u1:=k1.c1;have v0:=k2.c0;have v1:=k2.c1;clear hm3 hb3 k1 k2)))
 clear X2 f0 f1 x0 x1' y0 y1' u0 u1 v0 v1;go_wp2_with fail
 go_region_held3 (fun w' => w'.cell? ⟨a,0,none⟩ = some (.pointer (some ⟨p1,0,none⟩)) ∧ w'.cell? ⟨a + 1,0,none⟩ = some (.pointer (some ⟨p2,0,none⟩))) (go_keep) (fail)
 have X4:=hdz (anz X3.out.1.drew X3.out.2.drew);clear X3;generalize w3.drew = w4 at *;obtain ⟨-, -,k1,k2, -⟩:=HS.out _ X4.out.2;have v0:=k2.c0;have v1:=k2.c1;have v2:=k2.c2;have v3:=k2.c3;have v4:=k2.c4;have l4:=k1.c4;have ws:IntKind.i64.wrap ((ny:Int) + (nx:Int)) = (ny:Int) + (nx:Int):=by have:=HN.out.1;rw [IntKind.wrap_i64];omega
 clear k1 k2;go_wp2_with fail
 go_region_held3 (fun w' => w'.cell? ⟨p2,0,none⟩ = some (.int .i64 y1) ∧ w'.cell? ⟨p2,1,none⟩ = some (.int .i64 y2) ∧ w'.cell? ⟨p2,2,none⟩ = some (.pointer sy.q) ∧ w'.cell? ⟨p2,3,none⟩ = some (.int .i64 sy.n) ∧ w'.cell? ⟨p2,4,none⟩ = some (.int .i64 (ny:Int)) ∧ w'.cell? ⟨p1,4,none⟩ = some (.int .i64 (nx:Int))) (go_keep)
  (first | (go_at_call 149;((with_reducible refine (Hp.insert_any mo (c + 1) m oy ⟨.node (x1,x2) (heaps ox),p1⟩ sy _ (HQ.out _ X4.out.2.drew).1.key (by have:=(HQ.out _ X4.out.2.drew).2.qs;have:=HN.out.1;omega) X4.out.1.drew.mt (by have:=HN.out;omega) (by have:=HN.out;omega) HN.out.2.2.2.1 (by have:=HN.out;omega) (HQ.out _ X4.out.2.drew).2.q).mono ?_);rintro e w5 ⟨q5,rfl,ht5,hm5,hb5⟩;have X5:=hdz (anz (X4.out.1.drew.turn hm5 hb5 node_ne) (X4.out.2.drew.trans hb5));have T5:=hdz (show Hp.LAt w5 o5 q5 from HR.out.2.2.symm ▸ ht5);obtain ⟨-, -,k1,k2, -⟩:=HS.out _ X5.out.2;have i0:=k2.c0;have i1:=k2.c1;have i2:=k2.c2;have i3:=k2.c3;have i4:=k2.c4;have j4:=k1.c4;clear ht5 hm5 hb5 k1 k2)) | (go_at_call 123;((with_reducible refine (build_any mo _ _ y1 y2 o5 q5 ((ny:Int) + (nx:Int)) _ (by rw [HR.out.2.1];omega) X5.out.1.mt (by have:=HI.out;have:=HN.out;omega) (by have:=HI.out;have:=HN.out;omega) T5.out (HR.out.2.2.symm ▸ insert_lies (HQ.out _ X5.out.2).2.all (HQ.out _ X5.out.2).1.lies) HR.out.1 (by rw [HR.out.2.1];have:=HN.out.1;omega)).mono ?_);rintro e w6 ⟨p6,rfl,ht6,hm6,hb6⟩;have X6:=hdz (anz (X5.out.1.turn hm6 hb6 node_ne) (X5.out.2.trans hb6));have T6:=hdz ht6;obtain ⟨-, -,k1,k2,R6⟩:=HS.out _ X6.out.2;have m0:=k2.c0;have m1:=k2.c1;have m2:=k2.c2;have m3:=k2.c3;have m4:=k2.c4;have n4:=k1.c4;have r6:=R6.c0;have z6:=R6.z0;have RR:=hdz R6;clear ht6 hm6 hb6 k1 k2 R6)))
 go_wp2_with fail
 have hk:=X6.out.1.put RR.out heapT_ne (by decide) (by rw [← HA.out];omega) 0 (.pointer p6);have s0:=(RR.out.put p6).c0;exact bodyPost_ret (v:=hp p6) (by simp [results,Tryz.results124,go_sem,s0]) rfl ⟨p6,rfl,T6.out.wrote RR.out heapT_ne 0 _,by have:=HI.out;simpa [HI.out.1,HI.out.2.1,Int.add_assoc,Int.add_comm,Int.add_left_comm] using hk.mt,hk.bt⟩
theorem meld_ge_any (mo:Option Nat) (c m:Int) (x1 x2 y1 y2:Int) (ox oy:Qh) (p1 p2:Nat) (sx sy:Hp.HP) (nx ny:Nat) (w:World) (hs:nx + ny < 134217728) (hm:MAt w mo c m) (h0:0 ≤ c) (h1:c < 144115188075855872) (h2:0 ≤ m) (h3:m < 144115188075855872)
  (hx:Nod w (x1,x2) ox p1 sx nx) (hy:Nod w (y1,y2) oy p2 sy ny) (hv:ltE (y1,y2) (x1,x2) = false) :
  Calls Tryz.prog 124 #[hp (some ⟨p1,0,none⟩),mAddr mo,hp (some ⟨p2,0,none⟩)] w (Gave mo (c + meldC (.node (x1,x2) (heaps ox)) (.node (y1,y2) (heaps oy))) (m + meldM (.node (x1,x2) (heaps ox)) (.node (y1,y2) (heaps oy))) (meld (.node (x1,x2) (heaps ox)) (.node (y1,y2) (heaps oy))) w):=by
 obtain ⟨w1,hw1⟩:=exq (((w.alloc (.cells #[.pointer (some ⟨p1,0,none⟩)] 127)).alloc (.cells #[.pointer (some ⟨p2,0,none⟩)] 127)).alloc (.cells #[.pointer none] 127));have hb1:Below w.heap.size w w1:=by rw [hw1];exact new3 w _ _ _
 have F1:Fm w1 w.heap.size (some ⟨p1,0,none⟩) (some ⟨p2,0,none⟩):=by rw [hw1];exact Fm.new w _ _
 have HF:=hdz F1;have X:=hdz (anz ((Trk.refl (N:=NodeT) hm).stay hb1) (Bt.refl mo w1));have HX:=hdz (hx.stay hb1);have HY:=hdz (hy.stay hb1);obtain ⟨iC,hiC⟩:=exq (ox.insC);obtain ⟨iM,hiM⟩:=exq (ox.insM);have HI:=hdz (show iC = ox.insC ∧ iM = ox.insM ∧ iC ≤ 2 ∧ iM ≤ 2 from ⟨hiC,hiM,hiC ▸ Go.Proofs.YtmeodbjlmjpnbaaGreat.U.insC_le _,hiM ▸ Go.Proofs.YtmeodbjlmjpnbaaGreat.U.insM_le _⟩);have eq:=meld_geQ (x:=(x1,x2)) (y:=(y1,y2)) (ox:=ox) (oy:=oy) p2 hv;rw [← hiC,← hiM] at eq;rw [eq.1,eq.2.1,eq.2.2];have hok:(Lh.node (x1,x2) (heaps (ox.insert ⟨.node (y1,y2) (heaps oy),p2⟩))).ok:=eq.1 ▸ meld_ok _ _ hx.ok hy.ok;have hsz:(Lh.node (x1,x2) (heaps (ox.insert ⟨.node (y1,y2) (heaps oy),p2⟩))).size = nx + ny:=by rw [← eq.1,meld_size,hx.size,hy.size]
 obtain ⟨o5,ho5⟩:=exq (ox.insert ⟨.node (y1,y2) (heaps oy),p2⟩);rw [← ho5] at hok hsz ⊢;have HR:=hdz (anz hok (anz hsz ho5));have HN:=hdz (anz hs (anz h0 (anz h1 (anz h2 h3))));have HV:=hdz hv;have HW:=hdz hw1;clear hs h0 h1 h2 h3 F1 hb1 hm hw1 hx hy hv hiC hiM eq hok hsz ho5;go_enter Tryz.func124,Tryz.ntmps124
 go_wp2_with fail
 rw [← HW.out];obtain ⟨a,ha⟩:=exq (w.heap.size);rw [← ha] at HF ⊢;have HA:=hdz ha;clear ha HW
 have HS:=hdz (fun W (hz:Bt mo w1 W) => (show W.cell? ⟨a,0,none⟩ = some (.pointer (some ⟨p1,0,none⟩)) ∧ W.cell? ⟨a + 1,0,none⟩ = some (.pointer (some ⟨p2,0,none⟩)) ∧ Four W p1 (x1,x2) sx (nx:Int) ∧ Four W p2 (y1,y2) sy (ny:Int) ∧ HVar W (a + 2) none from
  ⟨(HF.out.h.bt hz X.out.1.mt).c0,(HF.out.o.bt hz X.out.1.mt).c0,(HX.out.bt hz X.out.1.mt).four,(HY.out.bt hz X.out.1.mt).four,HF.out.r.bt hz X.out.1.mt⟩))
 have HQ:=hdz (fun W (hz:Bt mo w1 W) => anz (HX.out.bt hz X.out.1.mt) (HY.out.bt hz X.out.1.mt));have d1:¬ p1 = a + 1 + 1:=ty_ne HX.out.blk HF.out.r (by decide);have d2:¬ p2 = a + 1 + 1:=ty_ne HY.out.blk HF.out.r (by decide);have d3:¬ a + 1 + 1 = p1:=fun e => d1 e.symm;have d4:¬ a + 1 + 1 = p2:=fun e => d2 e.symm;clear HX HY HF;obtain ⟨f0,f1, -⟩:=HS.out _ X.out.2;go_region_held3 (fun w' => w'.cell? ⟨a,0,none⟩ = some (.pointer (some ⟨p1,0,none⟩)) ∧ w'.cell? ⟨a + 1,0,none⟩ = some (.pointer (some ⟨p2,0,none⟩))) (go_keep) (fail)
 have X2:=hdz (anz X.out.1.drew X.out.2.drew);clear X f0 f1;obtain ⟨w2,hw2⟩:=exq (w1.drew);rw [← hw2] at X2 ⊢;clear hw2;obtain ⟨f0,f1,k1,k2, -⟩:=HS.out _ X2.out.2;have x0:=k1.c0;have x1':=k1.c1;have y0:=k2.c0;have y1':=k2.c1;clear k1 k2;go_wp2_with fail
 go_region_held3 (fun w' => w'.cell? ⟨a,0,none⟩ = some (.pointer (some ⟨p1,0,none⟩)) ∧ w'.cell? ⟨a + 1,0,none⟩ = some (.pointer (some ⟨p2,0,none⟩)) ∧ w'.cell? ⟨p1,0,none⟩ = some (.int .i64 x1) ∧ w'.cell? ⟨p1,1,none⟩ = some (.int .i64 x2) ∧ w'.cell? ⟨p2,0,none⟩ = some (.int .i64 y1) ∧ w'.cell? ⟨p2,1,none⟩ = some (.int .i64 y2)) (go_keep)
  (first | (go_at_call 140;((with_reducible refine (mLess mo c m (y1,y2) (x1,x2) _ X2.out.1.drew.mt HN.out.2.1 (by have:=HN.out;omega)).mono ?_);rintro e w3 ⟨rfl,hm3,hb3⟩;rw [HV.out];have X3:=hdz (anz (X2.out.1.drew.turn hm3 hb3 node_ne) (X2.out.2.drew.trans hb3));obtain ⟨g0,g1,k1,k2, -⟩:=HS.out _ X3.out.2;have u0:=k1.c0;have u1:=k1.c1;have v0:=k2.c0;have v1:=k2.c1;clear hm3 hb3 k1 k2)))
 clear X2 f0 f1 x0 x1' y0 y1' u0 u1 v0 v1;go_wp2_with fail
 have X4:=X3;clear X3;obtain ⟨-, -,k1,k2, -⟩:=HS.out _ X4.out.2;have v0:=k1.c0;have v1:=k1.c1;have v2:=k1.c2;have v3:=k1.c3;have v4:=k1.c4;have l4:=k2.c4;have ws:IntKind.i64.wrap ((nx:Int) + (ny:Int)) = (nx:Int) + (ny:Int):=by have:=HN.out.1;rw [IntKind.wrap_i64];omega
 clear k1 k2;go_wp2_with fail
 go_region_held3 (fun w' => w'.cell? ⟨p1,0,none⟩ = some (.int .i64 x1) ∧ w'.cell? ⟨p1,1,none⟩ = some (.int .i64 x2) ∧ w'.cell? ⟨p1,2,none⟩ = some (.pointer sx.q) ∧ w'.cell? ⟨p1,3,none⟩ = some (.int .i64 sx.n) ∧ w'.cell? ⟨p1,4,none⟩ = some (.int .i64 (nx:Int)) ∧ w'.cell? ⟨p2,4,none⟩ = some (.int .i64 (ny:Int))) (go_keep)
  (first | (go_at_call 149;((with_reducible refine (Hp.insert_any mo (c + 1) m ox ⟨.node (y1,y2) (heaps oy),p2⟩ sx _ (HQ.out _ X4.out.2.drew).2.key (by have:=(HQ.out _ X4.out.2.drew).1.qs;have:=HN.out.1;omega) X4.out.1.drew.mt (by have:=HN.out;omega) (by have:=HN.out;omega) HN.out.2.2.2.1 (by have:=HN.out;omega) (HQ.out _ X4.out.2.drew).1.q).mono ?_);rintro e w5 ⟨q5,rfl,ht5,hm5,hb5⟩;have X5:=hdz (anz (X4.out.1.drew.turn hm5 hb5 node_ne) (X4.out.2.drew.trans hb5));have T5:=hdz (show Hp.LAt w5 o5 q5 from HR.out.2.2.symm ▸ ht5);obtain ⟨-, -,k1,k2, -⟩:=HS.out _ X5.out.2;have i0:=k1.c0;have i1:=k1.c1;have i2:=k1.c2;have i3:=k1.c3;have i4:=k1.c4;have j4:=k2.c4;clear ht5 hm5 hb5 k1 k2)) | (go_at_call 123;((with_reducible refine (build_any mo _ _ x1 x2 o5 q5 ((nx:Int) + (ny:Int)) _ (by rw [HR.out.2.1];omega) X5.out.1.mt (by have:=HI.out;have:=HN.out;omega) (by have:=HI.out;have:=HN.out;omega) T5.out (HR.out.2.2.symm ▸ insert_lies (HQ.out _ X5.out.2).1.all (HQ.out _ X5.out.2).2.lies) HR.out.1 (by rw [HR.out.2.1];have:=HN.out.1;omega)).mono ?_);rintro e w6 ⟨p6,rfl,ht6,hm6,hb6⟩;have X6:=hdz (anz (X5.out.1.turn hm6 hb6 node_ne) (X5.out.2.trans hb6));have T6:=hdz ht6;obtain ⟨-, -,k1,k2,R6⟩:=HS.out _ X6.out.2;have m0:=k1.c0;have m1:=k1.c1;have m2:=k1.c2;have m3:=k1.c3;have m4:=k1.c4;have n4:=k2.c4;have r6:=R6.c0;have z6:=R6.z0;have RR:=hdz R6;clear ht6 hm6 hb6 k1 k2 R6)))
 go_wp2_with fail
 have hk:=X6.out.1.put RR.out heapT_ne (by decide) (by rw [← HA.out];omega) 0 (.pointer p6);have s0:=(RR.out.put p6).c0;exact bodyPost_ret (v:=hp p6) (by simp [results,Tryz.results124,go_sem,s0]) rfl ⟨p6,rfl,T6.out.wrote RR.out heapT_ne 0 _,by have:=HI.out;simpa [HI.out.1,HI.out.2.1,Int.add_assoc,Int.add_comm,Int.add_left_comm] using hk.mt,hk.bt⟩
theorem meld_any (mo:Option Nat) (ta tb:Lh) (c m:Int) (p pd:Option Addr) (w:World) (hs:ta.size + tb.size < 134217728) (hm:MAt w mo c m) (h0:0 ≤ c) (h1:c < 144115188075855872) (h2:0 ≤ m) (h3:m < 144115188075855872)
  (ha:LAt w ta p) (hb:LAt w tb pd):Calls Tryz.prog 124 #[hp p,mAddr mo,hp pd] w (Gave mo (c + meldC ta tb) (m + meldM ta tb) (meld ta tb) w):=by
 cases ta with
 | nil =>
  obtain rfl:=ha.no;have:=meld_left mo tb c m pd w hm hb;simpa [meldC,meldM,meld_nil] using this
 | node x qx =>
  obtain ⟨x1,x2⟩:=x;obtain ⟨ox,p1,sx,nx,rfl,rfl,hx⟩:=Nod.of ha
  cases tb with
  | nil =>
   obtain rfl:=hb.no;have:=meld_rightM mo _ c m p1 w hm ha;rw [meld_right];simpa [meldC,meldM] using this
  | node y qy =>
   obtain ⟨y1,y2⟩:=y;obtain ⟨oy,p2,sy,ny,rfl,rfl,hy⟩:=Nod.of hb;rw [← hx.size,← hy.size] at hs
   cases hv:ltE (y1,y2) (x1,x2) with
   | true => exact meld_lt_any mo c m x1 x2 y1 y2 ox oy p1 p2 sx sy nx ny w hs hm h0 h1 h2 h3 hx hy hv
   | false => exact meld_ge_any mo c m x1 x2 y1 y2 ox oy p1 p2 sx sy nx ny w hs hm h0 h1 h2 h3 hx hy hv
structure Fi (W:World) (a:Nat) (p:Option Addr) (x:Int × Int):Prop where
 h:HVar W a p
 e:EVar W (a + 1) x
 r:HVar W (a + 2) none
theorem Fi.new (w:World) (p:Option Addr) (x1 x2:Int):Fi (((w.alloc (.cells #[.pointer p] 127)).alloc (.cells #[.int .i64 x1,.int .i64 x2] 29)).alloc (.cells #[.pointer none] 127)) w.heap.size p (x1,x2):=by
 refine ⟨?_,?_,?_⟩
 ·show _ = _;rw [alloc_old _ (by simp only [World.size_alloc];omega),alloc_old _ (by simp only [World.size_alloc];omega)];exact new_at rfl
 ·show _ = _;rw [alloc_old _ (by simp only [World.size_alloc];omega)];exact new_at (by simp)
 ·exact new_at (by simp)
theorem insert_any (mo:Option Nat) (c m:Int) (h:Lh) (x:Int × Int) (p:Option Addr) (w:World) (hs:h.size < 134217727) (hm:MAt w mo c m) (h0:0 ≤ c) (h1:c < 144115188075855871) (h2:0 ≤ m) (h3:m < 144115188075855871)
  (hh:LAt w h p):Calls Tryz.prog 95 #[hp p,mAddr mo,el x] w (Gave mo (c + h.insC x) (m + h.insM x) (h.insert x) w):=by
 obtain ⟨x1,x2⟩:=x;obtain ⟨w1,hw1⟩:=exq (((w.alloc (.cells #[.pointer p] 127)).alloc (.cells #[.int .i64 x1,.int .i64 x2] 29)).alloc (.cells #[.pointer none] 127));have hb1:Below w.heap.size w w1:=by rw [hw1];exact new3 w _ _ _
 have F1:Fi w1 w.heap.size p (x1,x2):=by rw [hw1];exact Fi.new w p x1 x2
 have HF:=hdz F1;have X:=hdz (anz ((Trk.refl (N:=NodeT) hm).stay hb1) (Bt.refl mo w1));have HH:=hdz (hh.stay hb1);have HN:=hdz (anz hs (anz h0 (anz h1 (anz h2 h3))));obtain ⟨iC,hiC⟩:=exq (meldC (.one (x1,x2)) h);obtain ⟨iM,hiM⟩:=exq (meldM (.one (x1,x2)) h);have HI:=hdz (show h.insC (x1,x2) = iC ∧ h.insM (x1,x2) = iM + 1 from ⟨hiC.symm,by rw [hiM];rfl⟩)
 have HB:=hdz (fun W (k:MAt W mo c m) => show Calls Tryz.prog 123 #[mAddr mo,.agg #[.int .i64 x1,.int .i64 x2,.pointer none,.int .i64 0,.int .i64 1]] W (Gave mo c (m + 1) (.one (x1,x2)) W) from
  build_any mo c m x1 x2 .nil ⟨none,0⟩ 1 W (show (1:Int) = ((Lh.one (x1,x2)).size:Nat) by rw [one_size];rfl) k h2 (by omega) (Hp.LAt.nil _) (fun b hb => absurd (show b ∈ ([]:List Thing) from hb) (by simp)) (one_ok (x1,x2)) (show (Lh.one (x1,x2)).size ≤ 268435456 by rw [one_size];omega))
 have HM:=hdz (fun pa W (k1:MAt W mo c (m + 1)) (k2:LAt W (.one (x1,x2)) pa) (k3:LAt W h p) => hiM ▸ hiC ▸ meld_any mo (.one (x1,x2)) h c (m + 1) pa p W (by rw [one_size];omega) k1 h0 (by omega) (by omega) (by omega) k2 k3);have HW:=hdz hw1;clear hs h0 h1 h2 h3 F1 hb1 hm hw1 hh hiC hiM;go_enter Tryz.func95,Tryz.ntmps95
 go_wp2_with fail
 rw [← HW.out];obtain ⟨a,ha⟩:=exq (w.heap.size);rw [← ha] at HF ⊢;have HA:=hdz ha;clear ha HW
 have HS:=hdz (fun W (hz:Bt mo w1 W) => (show W.cell? ⟨a,0,none⟩ = some (.pointer p) ∧ W.cell? ⟨a + 1,0,none⟩ = some (.int .i64 x1) ∧ W.cell? ⟨a + 1,1,none⟩ = some (.int .i64 x2) ∧ HVar W (a + 2) none ∧ LAt W h p from
  ⟨(HF.out.h.bt hz X.out.1.mt).c0,(HF.out.e.bt hz X.out.1.mt).c0,(HF.out.e.bt hz X.out.1.mt).c1,HF.out.r.bt hz X.out.1.mt,HH.out.bt hz X.out.1.mt⟩))
 have d1:¬ a = a + 1 + 1:=by omega
 have d2:¬ a + 1 + 1 = a:=by omega
 have d3:¬ a + 1 = a + 1 + 1:=by omega
 have d4:¬ a + 1 + 1 = a + 1:=by omega
 clear HF HH;obtain ⟨f0,f1,f2, -⟩:=HS.out _ X.out.2
 go_region_held3 (fun w' => w'.cell? ⟨a,0,none⟩ = some (.pointer p) ∧ w'.cell? ⟨a + 1,0,none⟩ = some (.int .i64 x1) ∧ w'.cell? ⟨a + 1,1,none⟩ = some (.int .i64 x2)) (go_keep)
  (first | (go_at_call 123;((with_reducible refine (HB.out _ X.out.1.drew.mt).mono ?_);rintro e w2 ⟨p2,rfl,ht2,hm2,hb2⟩;have X2:=hdz (anz (X.out.1.drew.turn hm2 hb2 node_ne) (X.out.2.drew.trans hb2));have T2:=hdz (show LAt w2 (.one (x1,x2)) p2 from ht2);obtain ⟨i0,i1,i2, -⟩:=HS.out _ X2.out.2;clear ht2 hm2 hb2)) | (go_at_call 124;((with_reducible refine (HM.out p2 _ X2.out.1.mt T2.out (HS.out _ X2.out.2).2.2.2.2).mono ?_);rintro e w3 ⟨p3,rfl,ht3,hm3,hb3⟩;have X3:=hdz (anz (X2.out.1.turn hm3 hb3 node_ne) (X2.out.2.trans hb3));have T3:=hdz ht3;obtain ⟨j0,j1,j2,R3, -⟩:=HS.out _ X3.out.2;have r6:=R3.c0;have z6:=R3.z0;have RR:=hdz R3;clear ht3 hm3 hb3 R3)))
 go_wp2_with fail
 have hk:=X3.out.1.put RR.out heapT_ne (by decide) (by rw [← HA.out];omega) 0 (.pointer p3);have s0:=(RR.out.put p3).c0;exact bodyPost_ret (v:=hp p3) (by simp [results,Tryz.results95,go_sem,s0]) rfl ⟨p3,rfl,T3.out.wrote RR.out heapT_ne 0 _,by rw [HI.out.1,HI.out.2];simpa [Int.add_assoc,Int.add_comm,Int.add_left_comm] using hk.mt,hk.bt⟩
theorem size_in:∀ {l:List Lh} {b:Lh},b ∈ l → b.size ≤ sizes l
 | [],_,h => by cases h
 | d :: l,b,h => by
  rw [sizes_cons];rcases List.mem_cons.1 h with rfl | h
  ·omega
  ·have:=size_in h;omega
theorem Nod.least {W:World} {x:Int × Int} {o:Qh} {b:Nat} {s:Hp.HP} {n:Nat} (h:Nod W x o b s n) (hs:n ≤ 268435456) (hne:o.ts ≠ []):∃ (f:Int × Int) (fo:Qh) (fs:Hp.HP) (fn:Nat),o.min.1.h = .node f (heaps fo) ∧ Nod W f fo o.min.1.a fs fn ∧ fn + 1 ≤ n:=by
 have hl:=(pop_lies h.all hne).1;have hmem:o.min.1 ∈ o.all:=(Gn.spop_all hne).symm.subset (List.mem_cons_self ..);have hin:o.min.1.h ∈ Gn.bAll (heaps o):=by rw [heaps_all];exact List.mem_map_of_mem hmem
 have hok:=h.ok
 cases hok with | node hq hb hn => ?_
 have hsm:=size_in hin;have hsz:=node_size x (heaps o);rw [← h.size] at hsz;have e:=some_node (hn _ hin).1;rw [e] at hl hsm;obtain ⟨fo,fb,fs,fn,hq2,ha,hN⟩:=Nod.of (W:=W) (x:=o.min.1.h.key) (q:=o.min.1.h.queue) ⟨hl,e ▸ hb _ hin,by omega⟩;refine ⟨o.min.1.h.key,fo,fs,fn,by rw [← hq2];exact e,?_,by have:=hN.size;rw [← hq2] at this;omega⟩
 cases ha
 exact hN
theorem pop_nodeQ {x f:Int × Int} {o fo:Qh} (hne:o.ts ≠ []) (hf:o.min.1.h = .node f (heaps fo)):(Lh.node x (heaps o)).pop = .node f (heaps (Go.Proofs.YtmeodbjlmjpnbaaGreat.U.meld fo o.pop)) ∧ (Lh.node x (heaps o)).popC = o.tellN + (o.popC + o.tellN) + Go.Proofs.YtmeodbjlmjpnbaaGreat.U.meldN fo o.pop ∧ (Lh.node x (heaps o)).popM = o.popM + Go.Proofs.YtmeodbjlmjpnbaaGreat.U.meldN fo o.pop + 1:=by
 have hl:=heaps_least hne;rw [hf] at hl;obtain ⟨p1,p2,p3⟩:=heaps_pop o;obtain ⟨m1,m2⟩:=heaps_meld fo o.pop;have hlen:=heaps_len o;obtain ⟨ts⟩:=o
 cases ts with
 | nil => exact (hne rfl).elim
 | cons t r =>
  refine ⟨?_,?_,?_⟩
  ·show Lh.node (least (heaps ⟨t :: r⟩)).key (Gn.smeld (least (heaps ⟨t :: r⟩)).queue (Gn.sPop (heaps ⟨t :: r⟩))) = _;rw [hl,m1,p1];rfl
  ·show (r.map (Gn.Tre.map Thing.h)).length + (Gn.sPopN (heaps ⟨t :: r⟩) + (r.map (Gn.Tre.map Thing.h)).length) + Gn.smeldN (least (heaps ⟨t :: r⟩)).queue (Gn.sPop (heaps ⟨t :: r⟩)) = _;rw [hl,m2,p2,p1,List.length_map];rfl
  ·show Gn.sPopM (heaps ⟨t :: r⟩) + Gn.smeldN (least (heaps ⟨t :: r⟩)).queue (Gn.sPop (heaps ⟨t :: r⟩)) + 1 = _;rw [hl,m2,p3,p1];rfl
def Popped (mo:Option Nat) (c m:Int) (t:Lh) (is:Bool) (w:World) (e:Ending) (w':World):Prop:=∃ p,e = .returned (.tuple #[hp p,.bool is]) ∧ LAt w' t p ∧ MAt w' mo c m ∧ Bt mo w w'
theorem new2 (w:World) (o1 o2:Obj):Below w.heap.size w ((w.alloc o1).alloc o2):=(bqA _).alloc (by simp) _
structure Fp (W:World) (a:Nat) (p:Option Addr):Prop where
 h:HVar W a p
 r:HVar W (a + 1) none
theorem Fp.new (w:World) (p:Option Addr):Fp ((w.alloc (.cells #[.pointer p] 127)).alloc (.cells #[.pointer none] 127)) w.heap.size p:=by
 refine ⟨?_,new_at (by simp)⟩;show _ = _;rw [alloc_old _ (by simp only [World.size_alloc];omega)];exact new_at rfl
def SVar (W:World) (b:Nat) (q:Hp.HP):Prop:=W.heap[b]? = some (.cells #[.pointer q.q,.int .i64 q.n] 257 (0,0))
section
variable {W W':World} {b:Nat} {q:Hp.HP} {mo:Option Nat} {c m:Int}
theorem SVar.bt (h:SVar W b q) (hb:Bt mo W W') (hm:MAt W mo c m):SVar W' b q:=hb.row hm h (by decide)
theorem SVar.c0 (h:SVar W b q):W.cell? ⟨b,0,none⟩ = some (.pointer q.q):=by unfold SVar at h;simp [World.cell?,h]
theorem SVar.c1 (h:SVar W b q):W.cell? ⟨b,1,none⟩ = some (.int .i64 q.n):=by unfold SVar at h;simp [World.cell?,h]
end
theorem pop_nil (mo:Option Nat) (c m:Int) (w:World) (hm:MAt w mo c m):Calls Tryz.prog 372 #[hp none,mAddr mo] w (Popped mo c m .nil false w):=by
 have hbe:=new2 w (.cells #[.pointer none] 127) (.cells #[.pointer none] 127);have F:=Fp.new w none;have c0:=F.h.c0;have r0:=F.r.c0;have z0:=F.r.z0;have X:=hdz (anz (hm.stay hbe) hbe);clear F hm hbe;go_enter Tryz.func372,Tryz.ntmps372
 go_wp2_with fail
 exact bodyPost_ret (v := .tuple #[hp none,.bool false]) (by simp [results,Tryz.results372,go_sem]) rfl ⟨_,rfl,LAt.none _,X.out.1,Bt.ofBelow X.out.2⟩
theorem pop_one (mo:Option Nat) (c m:Int) (x1 x2:Int) (b:Nat) (s:Hp.HP) (n:Nat) (w:World) (hm:MAt w mo c m) (h0:0 ≤ c) (h1:c < 72057594037927936) (hx:Nod w (x1,x2) ⟨[]⟩ b s n) :
  Calls Tryz.prog 372 #[hp (some ⟨b,0,none⟩),mAddr mo] w (Popped mo c m .nil true w):=by
 have hb1:=new2 w (.cells #[.pointer (some ⟨b,0,none⟩)] 127) (.cells #[.pointer none] 127);have F:=Fp.new w (some ⟨b,0,none⟩);have HF:=hdz F;have X:=hdz ((Trk.refl (N:=NodeT) hm).stay hb1);have HX:=hdz (hx.stay hb1);have k:=HX.out.four;have f0:=F.h.c0;have g2:=k.c2;have g3:=k.c3;have HN:=hdz (anz h0 h1);clear F k hm h0 h1 hx hb1;go_enter Tryz.func372,Tryz.ntmps372
 go_wp2_with fail
 generalize (w.alloc (.cells #[.pointer (some ⟨b,0,none⟩)] 127)).alloc (.cells #[.pointer none] 127) = w1 at *;obtain ⟨a,ha⟩:=exq (w.heap.size);rw [← ha] at HF f0 ⊢;have HA:=hdz ha;clear ha;((with_reducible refine (Hp.min_any mo c m ⟨[]⟩ s w1 X.out.mt HN.out.1 (by have:=HN.out;omega) HX.out.q).mono ?_);rintro e w2 ⟨rfl,hm2,hb2⟩);rw [show Hp.minV ⟨[]⟩ = .tuple #[.pointer none,.bool false] from rfl];have R2:=hdz (HF.out.r.bt hb2 X.out.mt);have X2:=hdz (X.out.turn hm2 hb2 node_ne);have r6:=R2.out.c0;have z6:=R2.out.z0;clear f0 g2 g3 hm2 hb2;go_wp2_with fail
 have hk:=X2.out.put R2.out heapT_ne (by decide) (by rw [← HA.out];omega) 0 (.pointer none);have s0:=(R2.out.put none).c0;exact bodyPost_ret (v := .tuple #[hp none,.bool true]) (by simp [results,Tryz.results372,go_sem,s0]) rfl ⟨none,rfl,LAt.none _,by simpa [Lh.tellN] using hk.mt,hk.bt⟩
theorem pop_more (mo:Option Nat) (c m:Int) (x1 x2 f1 f2:Int) (o fo:Qh) (b fa:Nat) (s fs:Hp.HP) (n fn:Nat) (w:World) (hs:n < 134217728) (hfn:fn + 1 ≤ n) (hm:MAt w mo c m) (h0:0 ≤ c) (h1:c < 72057594037927936) (h2:0 ≤ m) (h3:m < 72057594037927936)
  (hx:Nod w (x1,x2) o b s n) (hne:o.ts ≠ []) (hmin:Hp.minV o = .tuple #[.pointer (some ⟨fa,0,none⟩),.bool true]) (hf:o.min.1.h = .node (f1,f2) (heaps fo)) (hF:Nod w (f1,f2) fo fa fs fn) (hlies:∀ e ∈ o.pop.all,LAt0 w e.h (some ⟨e.a,0,none⟩)) :
  Calls Tryz.prog 372 #[hp (some ⟨b,0,none⟩),mAddr mo] w (Popped mo (c + (Lh.node (x1,x2) (heaps o)).popC) (m + (Lh.node (x1,x2) (heaps o)).popM) (Lh.node (x1,x2) (heaps o)).pop true w):=by
 have hb1:=new2 w (.cells #[.pointer (some ⟨b,0,none⟩)] 127) (.cells #[.pointer none] 127);have F:=Fp.new w (some ⟨b,0,none⟩);have HF:=hdz F;have X:=hdz ((Trk.refl (N:=NodeT) hm).stay hb1);have HX:=hdz (hx.stay hb1);have HG:=hdz (anz (hF.stay hb1) (fun e he => (hlies e he).stay hb1));have k:=HX.out.four;have f0:=F.h.c0;have g2:=k.c2;have g3:=k.c3;obtain ⟨t,ht⟩:=exq (o.tellN);obtain ⟨pC,hpC⟩:=exq (o.popC + o.tellN);obtain ⟨pM,hpM⟩:=exq (o.popM);obtain ⟨mN,hmN⟩:=exq (Go.Proofs.YtmeodbjlmjpnbaaGreat.U.meldN fo o.pop);obtain ⟨is,his⟩:=exq (o.some);obtain ⟨e1,e2,e3⟩:=pop_nodeQ (x:=(x1,x2)) hne hf;have hq:=hx.qs;have hqf:=hF.qs;have hps:=Go.Proofs.YtmeodbjlmjpnbaaGreat.U.pop_size o;have hpc:=Go.Proofs.YtmeodbjlmjpnbaaGreat.U.pop_counts o;have hts:=Go.Proofs.YtmeodbjlmjpnbaaGreat.U.tellN_size o;have hms:=Go.Proofs.YtmeodbjlmjpnbaaGreat.U.meldN_size fo o.pop;have HI:=hdz (show t = o.tellN ∧ pC = o.popC + o.tellN ∧ pM = o.popM ∧ mN = Go.Proofs.YtmeodbjlmjpnbaaGreat.U.meldN fo o.pop ∧ is = o.some ∧ t < 134217728 ∧ pC < 536870912 ∧ pM < 536870912 ∧ mN < 536870912 ∧ o.size < 134217728 ∧ fo.size + o.pop.size < 268435456 from ⟨ht,hpC,hpM,hmN,his,by omega,by omega,by omega,by omega,by omega,by omega⟩);have hok:=pop_ok hx.ok;have hsz:=Bo.pop_size hx.ok;rw [← hx.size] at hsz;rw [e1] at hok hsz;rw [e1,e2,e3,← ht,← hpM,← hmN,show o.popC + t = pC from by rw [hpC,ht]];have HR:=hdz (anz hok (anz hsz hmin));have HN:=hdz (anz hs (anz h0 (anz h1 (anz h2 h3))));clear F k hm hs h0 h1 h2 h3 hx hb1 hF hlies e1 e2 e3 ht hpC hpM hmN his hq hqf hps hpc hts hms hok hsz hmin hf hne hfn;go_enter Tryz.func372,Tryz.ntmps372
 go_wp2_with fail
 generalize (w.alloc (.cells #[.pointer (some ⟨b,0,none⟩)] 127)).alloc (.cells #[.pointer none] 127) = w1 at *;obtain ⟨a,ha⟩:=exq (w.heap.size);rw [← ha] at HF f0 ⊢;have HA:=hdz ha;clear ha
 have HS:=hdz (fun W (hz:Bt mo w1 W) => (show W.cell? ⟨a,0,none⟩ = some (.pointer (some ⟨b,0,none⟩)) ∧ Nod W (x1,x2) o b s n ∧ Nod W (f1,f2) fo fa fs fn ∧ HVar W (a + 1) none ∧ ∀ e ∈ o.pop.all,LAt0 W e.h (some ⟨e.a,0,none⟩) from
  ⟨(HF.out.h.bt hz X.out.mt).c0,HX.out.bt hz X.out.mt,HG.out.1.bt hz X.out.mt,HF.out.r.bt hz X.out.mt,fun e he => (HG.out.2 e he).kps (hz.kpt X.out.mt node_ne) hz.size⟩))
 have d1:¬ a = a + 1:=by omega
 have d2:¬ a + 1 = a:=by omega
 have d3:¬ b = a + 1:=ty_ne HX.out.blk HF.out.r (by decide);have d4:¬ a + 1 = b:=fun e => d3 e.symm;have d5:¬ fa = a + 1:=ty_ne HG.out.1.blk HF.out.r (by decide);have d6:¬ a + 1 = fa:=fun e => d5 e.symm;have HAL:=hdz (show a + 1 < w1.heap.size from lt_of_heap HF.out.r);clear HF HG;((with_reducible refine (Hp.min_any mo c m o s w1 X.out.mt HN.out.2.1 (by have:=HN.out;omega) HX.out.q).mono ?_);rintro e w2 ⟨rfl,hm2,hb2⟩);rw [HR.out.2.2];have X2:=hdz (anz (X.out.turn (HI.out.1.symm ▸ hm2) hb2 node_ne) hb2);clear f0 g2 g3 hm2 hb2 HX X;obtain ⟨f0,k1, -⟩:=HS.out _ X2.out.2;have g2:=k1.four.c2;have g3:=k1.four.c3;clear k1;go_wp2_with fail
 ((with_reducible refine (Hp.pop_any mo (c + t) m o s w2 HI.out.2.2.2.2.2.2.2.2.2.1 X2.out.1.mt (by have:=HN.out;omega) (by have:=HN.out;have:=HI.out;omega) HN.out.2.2.2.1 (by have:=HN.out;omega) (HS.out _ X2.out.2).2.1.q).mono ?_);rintro e w3 ⟨p3,rfl,ht3,hm3,hb3⟩);rw [← HI.out.2.2.2.2.1];have X3:=hdz (anz (X2.out.1.turn (HI.out.2.1.symm ▸ HI.out.2.2.1.symm ▸ hm3) hb3 node_ne) (X2.out.2.trans hb3));have T3:=hdz ht3;clear f0 g2 g3 ht3 hm3 hb3 X2;go_wp2_with fail
 have hal:Below w3.heap.size w3 (w3.alloc (.cells #[.pointer p3.q,.int .i64 p3.n] 257)):=bqA _;have X4:=hdz (anz (X3.out.1.stay hal) (X3.out.2.trans (Bt.ofBelow hal)));have T4:=hdz (T3.out.stay hal);have V4:=hdz (show SVar (w3.alloc (.cells #[.pointer p3.q,.int .i64 p3.n] 257)) w3.heap.size p3 from new_at rfl);have HVL:=hdz (show a + 1 < w3.heap.size from Nat.lt_of_lt_of_le HAL.out X3.out.2.size);clear hal X3 T3;generalize w3.alloc (.cells #[.pointer p3.q,.int .i64 p3.n] 257) = w4 at *;obtain ⟨v,hv⟩:=exq (w3.heap.size);rw [← hv] at V4 HVL ⊢;clear hv;have d7:¬ v = a + 1:=by have:=HVL.out;omega
 have d8:¬ a + 1 = v:=by have:=HVL.out;omega
 obtain ⟨f0,k1,k2, -⟩:=HS.out _ X4.out.2;have b4:=k1.four.c4;have g0:=k2.four.c0;have g1:=k2.four.c1;have g2:=k2.four.c2;have g3:=k2.four.c3;have v0:=V4.out.c0;have v1:=V4.out.c1;have ws:IntKind.i64.wrap ((n:Int) - 1) = (n:Int) - 1:=by have:=HN.out.1;rw [IntKind.wrap_i64];omega
 clear k1 k2
 go_region_held3 (fun w' => w'.cell? ⟨a,0,none⟩ = some (.pointer (some ⟨b,0,none⟩)) ∧ w'.cell? ⟨b,4,none⟩ = some (.int .i64 (n:Int)) ∧ w'.cell? ⟨fa,0,none⟩ = some (.int .i64 f1) ∧ w'.cell? ⟨fa,1,none⟩ = some (.int .i64 f2) ∧ w'.cell? ⟨fa,2,none⟩ = some (.pointer fs.q) ∧ w'.cell? ⟨fa,3,none⟩ = some (.int .i64 fs.n) ∧ w'.cell? ⟨v,0,none⟩ = some (.pointer p3.q) ∧ w'.cell? ⟨v,1,none⟩ = some (.int .i64 p3.n)) (go_keep)
  (first | (go_at_call 330;((with_reducible refine (Hp.meld_any mo fo o.pop (c + t + pC) (m + pM) fs p3 _ HI.out.2.2.2.2.2.2.2.2.2.2 X4.out.1.drew.mt (by have:=HN.out;omega) (by have:=HN.out;have:=HI.out;omega) (by have:=HN.out;omega) (by have:=HN.out;have:=HI.out;omega) (HS.out _ X4.out.2.drew).2.2.1.q (T4.out.stay ((Below.refl _ _).drew))).mono ?_);rintro e w5 ⟨p5,rfl,ht5,hm5,hb5⟩;have X5:=hdz (anz (X4.out.1.drew.turn (HI.out.2.2.2.1.symm ▸ hm5) hb5 node_ne) (X4.out.2.drew.trans hb5));have V5:=hdz ((show SVar w4.drew v p3 from (((Below.refl w4.heap.size w4).drew).block _ (lt_of_heap V4.out)).trans V4.out).bt hb5 X4.out.1.drew.mt);have T5:=hdz ht5;obtain ⟨i0,k1,k2, -⟩:=HS.out _ X5.out.2;have ib4:=k1.four.c4;have ig0:=k2.four.c0;have ig1:=k2.four.c1;have ig2:=k2.four.c2;have ig3:=k2.four.c3;have iv0:=V5.out.c0;have iv1:=V5.out.c1;clear ht5 hm5 hb5 k1 k2)) | (go_at_call 123;((with_reducible refine (build_any mo _ _ f1 f2 (Go.Proofs.YtmeodbjlmjpnbaaGreat.U.meld fo o.pop) p5 ((n:Int) - 1) _ (by rw [HR.out.2.1];have:=(HS.out _ X5.out.2).2.1.qs;omega) X5.out.1.mt (by have:=HI.out;have:=HN.out;omega) (by have:=HI.out;have:=HN.out;omega) T5.out (meld_lies (HS.out _ X5.out.2).2.2.1.all (HS.out _ X5.out.2).2.2.2.2) HR.out.1 (by rw [HR.out.2.1];have:=HN.out.1;omega)).mono ?_);rintro e w6 ⟨p6,rfl,ht6,hm6,hb6⟩;have X6:=hdz (anz (X5.out.1.turn hm6 hb6 node_ne) (X5.out.2.trans hb6));have V6:=hdz (V5.out.bt hb6 X5.out.1.mt);have T6:=hdz ht6;obtain ⟨j0,k1,k2,R6, -⟩:=HS.out _ X6.out.2;have jb4:=k1.four.c4;have jg0:=k2.four.c0;have jg1:=k2.four.c1;have jg2:=k2.four.c2;have jg3:=k2.four.c3;have jv0:=V6.out.c0;have jv1:=V6.out.c1;have r6:=R6.c0;have z6:=R6.z0;have RR:=hdz R6;clear ht6 hm6 hb6 k1 k2 R6)))
 go_wp2_with fail
 have hk:=X6.out.1.put RR.out heapT_ne (by decide) (by rw [← HA.out];omega) 0 (.pointer p6);have s0:=(RR.out.put p6).c0;exact bodyPost_ret (v := .tuple #[hp p6,.bool true]) (by simp [results,Tryz.results372,go_sem,s0]) rfl ⟨p6,rfl,T6.out.wrote RR.out heapT_ne 0 _,by simpa [Int.add_assoc,Int.add_comm,Int.add_left_comm] using hk.mt,hk.bt⟩
theorem pop_any (mo:Option Nat) (c m:Int) (h:Lh) (p:Option Addr) (w:World) (hs:h.size < 134217728) (hm:MAt w mo c m) (h0:0 ≤ c) (h1:c < 72057594037927936) (h2:0 ≤ m) (h3:m < 72057594037927936)
  (hh:LAt w h p):Calls Tryz.prog 372 #[hp p,mAddr mo] w (Popped mo (c + h.popC) (m + h.popM) h.pop h.some w):=by
 cases h with
 | nil =>
  obtain rfl:=hh.no;have:=pop_nil mo c m w hm;simpa [Lh.popC,Lh.popM,Lh.pop,Lh.some,Lh.min] using this
 | node x q =>
  obtain ⟨x1,x2⟩:=x;obtain ⟨o,b,s,n,rfl,rfl,hx⟩:=Nod.of hh;rw [← hx.size] at hs;by_cases hne:o.ts = []
  ·obtain ⟨ts⟩:=o;change ts = [] at hne;subst hne;have:=pop_one mo c m x1 x2 b s n w hm h0 h1 hx;have e1:(Lh.node (x1,x2) (heaps ⟨[]⟩)).popC = 0:=rfl;have e2:(Lh.node (x1,x2) (heaps ⟨[]⟩)).popM = 0:=rfl;have e3:(Lh.node (x1,x2) (heaps ⟨[]⟩)).pop = .nil:=rfl;rw [e1,e2,e3,show (Lh.node (x1,x2) (heaps ⟨[]⟩)).some = true from rfl];simpa using this
  ·obtain ⟨⟨f1,f2⟩,fo,fs,fn,hf,hF,hfn⟩:=hx.least (by omega) hne;have hl:=(pop_lies hx.all hne).2;refine pop_more mo c m x1 x2 f1 f2 o fo b o.min.1.a s fs n fn w hs hfn hm h0 h1 h2 h3 hx hne ?_ hf hF hl;obtain ⟨ts⟩:=o
   cases ts with
   | nil => exact (hne rfl).elim
   | cons t r => rfl
end Go.Proofs.YtmeodbjlmjpnbaaGreat.U.Bo
namespace Go.Proofs.YtmeodbjlmjpnbaaGreat.U.Bo
open Go.Sort Go.RowKit
theorem put_take (xs:List (Int × Int)) (k:Nat) (h:k < xs.length):putC .nil (xs.take (k + 1)) = putC .nil (xs.take k) + (ofL (xs.take k)).insC xs[k] ∧ putM .nil (xs.take (k + 1)) = putM .nil (xs.take k) + (ofL (xs.take k)).insM xs[k]:=by
 rw [List.take_succ_eq_append_getElem h,putC_snoc,putM_snoc];exact ⟨rfl,rfl⟩
theorem ofL_take (xs:List (Int × Int)) (k:Nat) (h:k < xs.length):ofL (xs.take (k + 1)) = (ofL (xs.take k)).insert xs[k]:=by
 rw [List.take_succ_eq_append_getElem h,ofL_snoc]
theorem put_small (xs:List (Int × Int)) (h:xs.length < 16777216):putC .nil xs < 67108864 ∧ putM .nil xs < 67108864:=by
 have:=put_le xs .nil;omega
theorem cell_old {w:World} {q:Addr} {v:Value} (h:w.cell? q = some v) (o:Obj):(w.alloc o).cell? q = some v:=(((Below.refl w.heap.size w).alloc (Nat.le_refl _) o).cell (block_lt_of_cell h)).trans h
theorem of_any (mo:Option Nat) (c m:Int) (A:Option Addr) (xs:List (Int × Int)) (cap:Nat) (w:World) (hm:MAt w mo c m) (h0:0 ≤ c) (h1:c < 72057594037927936) (h2:0 ≤ m) (h3:m < 72057594037927936) (hr:Row w A xs) (hn:xs.length < 16777216)
  (hne:0 < xs.length → ∀ b,mo = some b → ∀ q,A = some q → q.block ≠ b) :
  Calls Tryz.prog 51 #[mAddr mo,.slice A xs.length cap] w (Gave mo (c + putC .nil xs) (m + putM .nil xs) (ofL xs) w):=by
 have K1:Trk NodeT mo w c m ((w.alloc (.cells #[.pointer none] 127)).alloc (.cells #[.pointer none] 127)):=((Trk.refl hm).alloc _).alloc _
 have e1:((w.alloc (.cells #[.pointer none] 127)).alloc (.cells #[.pointer none] 127)).heap[w.heap.size]? = some (.cells #[.pointer none] 127 (0,0)):=by
  rw [alloc_old _ (by simp only [World.size_alloc];omega)];exact new_at rfl
 have e2:((w.alloc (.cells #[.pointer none] 127)).alloc (.cells #[.pointer none] 127)).heap[w.heap.size + 1]? = some (.cells #[.pointer none] 127 (0,0)):=new_at (by simp);have HR:=hdz (anz hr hne);have HN:=hdz (anz h0 (anz h1 (anz h2 h3)));have HE:=hdz (anz e1 e2);have KK:=hdz K1;obtain ⟨n,hnn⟩:=exq (xs.length);rw [← hnn] at hn ⊢;have HX:=hdz hnn;clear hr hne h0 h1 h2 h3 K1 hm e1 e2 hnn;go_enter Tryz.func51,Tryz.ntmps51
 go_wp2_with fail
 generalize (w.alloc (.cells #[.pointer none] 127)).alloc (.cells #[.pointer none] 127) = w1 at *;obtain ⟨a,ha⟩:=exq (w.heap.size);rw [← ha] at HE ⊢;have HA:=hdz ha;clear ha;go_loopg [10] n (fun k i wr => ∃ (j:Nat) (p:Option Addr),i = .int .i64 (j:Int) ∧ j + k = n ∧ wr.heap[a]? = some (.cells #[.pointer none] 127 (0,0)) ∧ wr.heap[a + 1]? = some (.cells #[.pointer p] 127 (0,0)) ∧ LAt wr (ofL (xs.take j)) p ∧ Trk NodeT mo w (c + putC .nil (xs.take j)) (m + putM .nil (xs.take j)) wr)
 case atStart => exact ⟨0,none,rfl,by omega,HE.out.1,HE.out.2,LAt.none _,by simpa [putC,putM] using KK.out⟩
 case round =>
  obtain ⟨j,p,rfl,hj,hra,hrb,ht,hk⟩:=hrel;by_cases hlt:j < n
  ·have hjx:j < xs.length:=by rw [← HX.out];exact hlt
   obtain ⟨b,o,rfl,hc⟩:=HR.out.1 (by omega);have hx:=row_at hc j hjx;have hne:=fun bb (eb:mo = some bb) => HR.out.2 (by omega) bb eb _ rfl;have x0:=hk.bt.cell hx.1 hne;have x1:=hk.bt.cell hx.2 hne;have hp:=put_small (xs.take j) (by rw [List.length_take];omega);have hsz:(ofL (xs.take j)).size = j:=by rw [ofL_size,List.length_take];omega
   have eP:=put_take xs j hjx;have eO:=ofL_take xs j hjx;generalize xs[j] = x at *;obtain ⟨y1,y2⟩:=x;have q1:(j:Int) < (n:Int):=by omega
   have q2:(0:Int) ≤ (j:Int):=by omega
   have h1c:wr.cell? ⟨a + 1,0,none⟩ = some (.pointer p):=by simp [World.cell?,hrb]
   have h2c:(wr.alloc (.cells #[.int .i64 y1,.int .i64 y2] 29)).cell? ⟨a + 1,0,none⟩ = some (.pointer p):=cell_old h1c _;have X:=hdz (anz hra (anz hrb (anz ht (anz hk (anz eP (anz eO (anz hp (anz hsz hj))))))));clear hra hrb ht hk eP eO hp hsz hj hc hx hne hjx;go_wp2_with fail
   clear h1c h2c x0 x1;((with_reducible refine (insert_any mo _ _ (ofL (xs.take j)) (y1,y2) p _ (by rw [X.out.2.2.2.2.2.2.2.1];omega) (X.out.2.2.2.1.alloc _).mt (by have:=HN.out;omega) (by have:=HN.out;have:=X.out.2.2.2.2.2.2.1;omega) (by have:=HN.out;omega) (by have:=HN.out;have:=X.out.2.2.2.2.2.2.1;omega) (X.out.2.2.1.stay (bqA _))).mono ?_);rintro e w2 ⟨p2,rfl,ht2,hm2,hb2⟩);obtain ⟨hra,hrb,ht,hk,eP,eO,hp,hsz,hj⟩:=X.out;have hk2:=(hk.alloc (.cells #[.int .i64 y1,.int .i64 y2] 29)).turn hm2 hb2 node_ne;have ra2:=hb2.row (hk.alloc _).mt ((alloc_old (.cells #[.int .i64 y1,.int .i64 y2] 29) (lt_of_heap hra)).trans hra) (by decide);have rb2:=hb2.row (hk.alloc _).mt ((alloc_old (.cells #[.int .i64 y1,.int .i64 y2] 29) (lt_of_heap hrb)).trans hrb) (by decide);have e1:c + ((putC .nil (xs.take (j + 1)):Nat):Int) = c + (putC .nil (xs.take j):Nat) + ((ofL (xs.take j)).insC (y1,y2):Nat):=by rw [eP.1];omega
   have e2:m + ((putM .nil (xs.take (j + 1)):Nat):Int) = m + (putM .nil (xs.take j):Nat) + ((ofL (xs.take j)).insM (y1,y2):Nat):=by rw [eP.2];omega
   rw [← e1,← e2] at hk2;rw [← eO] at ht2;have z2:w2.frozen? ⟨a + 1,0,none⟩ = false:=by simp [World.frozen?,rb2]
   have r2:w2.cell? ⟨a + 1,0,none⟩ = some (.pointer p):=by simp [World.cell?,rb2]
   have Y:=hdz (anz (show (w2.setCell ⟨a + 1,0,none⟩ (.pointer p2)).heap[a]? = _ from (heap_other _ _ (by omega)).trans ra2) (anz (show (w2.setCell ⟨a + 1,0,none⟩ (.pointer p2)).heap[a + 1]? = some (.cells #[.pointer p2] 127 (0,0)) from heap_put (j:=0) rb2 (.pointer p2)) (anz (ht2.wrote rb2 heapT_ne 0 (.pointer p2)) (hk2.put rb2 heapT_ne (by decide) (by rw [← HA.out];omega) 0 (.pointer p2)))));clear hra hrb ht hk eP eO hp hsz hk2 ra2 rb2 e1 e2 ht2 hm2 hb2 X;go_wp2_with fail
   go_roundg (n - 1 - j)
   case measure => omega
   case rel => exact ⟨j + 1,p2,by congr 1,by omega,Y.out.1,Y.out.2.1,Y.out.2.2.1,Y.out.2.2.2⟩
  ·have hjn:j = n:=by omega
   subst hjn;rw [HX.out,List.take_length] at ht hk;have h1c:wr.cell? ⟨a + 1,0,none⟩ = some (.pointer p):=by simp [World.cell?,hrb]
   have r6:wr.cell? ⟨a,0,none⟩ = some (.pointer none):=by simp [World.cell?,hra]
   have z6:wr.frozen? ⟨a,0,none⟩ = false:=by simp [World.frozen?,hra]
   have hk2:=hk.put hra heapT_ne (by decide) (by rw [← HA.out];omega) 0 (.pointer p);have X:=hdz (anz (ht.wrote hra heapT_ne 0 (.pointer p)) hk2);clear hra hrb ht hk hk2 hlt hj;go_wp2_with fail
   exact bodyPost_ret (v:=hp p) (by simp [results,Tryz.results51,go_sem,r6]) rfl ⟨_,rfl,X.out.1,X.out.2.mt,X.out.2.bt⟩
end Go.Proofs.YtmeodbjlmjpnbaaGreat.U.Bo
namespace Go.Proofs.YtmeodbjlmjpnbaaGreat.U.Bo
open Go.Sort Go.RowKit
theorem min_srt {h:Lh} (hg:h.good):h.min = (hd (srt h.all),decide (0 < (srt h.all).length)):=by
 cases h with
 | nil => rw [show (Lh.nil).all = [] from all_nil,srt_nil];rfl
 | node x o => rw [ok_srt (h := .node x o) hg.ok rfl];rfl
theorem some_srt {h:Lh} (hg:h.good):h.some = decide (0 < (srt h.all).length):=(show h.some = h.min.2 by exact (min_some h).symm).trans (congrArg Prod.snd (min_srt hg))
theorem size_srt (h:Lh):(srt h.all).length = h.size:=by rw [srt_length,Lh.all_length]
theorem insK (h:Lh) (x:Int × Int) (q:Option Addr) (w:World) (hs:h.size < 16777216) (hh:LAt w h q) :
  Calls Tryz.prog 291 #[.agg #[.pointer q],.pointer none,el x] w fun e w' => ∃ q':Option Addr,e = .returned (.iface 187 (.agg #[.pointer q'])) ∧ LAt w' (h.insert x) q' ∧ Below w.heap.size w w':=by
 obtain ⟨x1,x2⟩:=x;have hm:∀ (k:Nat) (w:World),(method (k + 1) 127 (.agg #[.pointer q]) "Insert").run Tryz.prog w = .ok (95,.agg #[.pointer q]) w:=fun _ _ => by kernel_rfl
 have hb1:Below w.heap.size w ((w.alloc (.cells #[.pointer q] 187)).alloc (.cells #[.int .i64 x1,.int .i64 x2] 29)):=(bqA _).alloc (by simp) _;have H:=hdz (anz (hh.stay hb1) hb1);have HS:=hdz hs;clear hh hb1 hs;go_enter Tryz.func291,Tryz.ntmps291
 go_wp2_with fail
 refine (insert_any none 0 0 h (x1,x2) q _ (by have:=HS.out;omega) trivial (by decide) (by decide) (by decide) (by decide) H.out.1).mono ?_;rintro e w1 ⟨q',rfl,ht, -,hb⟩;have Y:=hdz (anz ht (H.out.2.trans (hb.toBelow.mono H.out.2.size)));clear ht hb;go_wp2_with fail
 refine bodyPost_ret (v := .iface 187 (.agg #[.pointer q'])) (by simp [results,Tryz.results291,go_sem]) rfl ⟨q',rfl,Y.out.1,Y.out.2⟩
theorem meldK (a b:Lh) (q:Option Addr) (p:Option Addr) (w:World) (hs:a.size + b.size < 16777216) (ha:LAt w a q) (hb:LAt w b p) :
  Calls Tryz.prog 292 #[.agg #[.pointer q],.pointer none,.iface 187 (.agg #[.pointer p])] w fun e w' => ∃ q':Option Addr,e = .returned (.tuple #[.iface 187 (.agg #[.pointer q']),.bool true]) ∧ LAt w' (meld a b) q' ∧ Below w.heap.size w w':=by
 have hm:∀ (k:Nat) (w:World),(method (k + 1) 127 (.agg #[.pointer q]) "Meld").run Tryz.prog w = .ok (124,.agg #[.pointer q]) w:=fun _ _ => by kernel_rfl
 have ht:∀ (w:World),(Instr.typeAssert (.iface 187 (.agg #[.pointer p])) 25 187 true).run Tryz.prog w = .ok (.tuple #[.agg #[.pointer p],.bool true]) w:=fun _ => by kernel_rfl
 have hb1:Below w.heap.size w ((w.alloc (.cells #[.pointer q] 187)).alloc (.cells #[.pointer p] 187)):=(bqA _).alloc (by simp) _;have H:=hdz (anz (ha.stay hb1) (anz (hb.stay hb1) hb1));have HS:=hdz hs;clear ha hb hb1 hs;go_enter Tryz.func292,Tryz.ntmps292
 go_wp2_with fail
 refine (meld_any none a b 0 0 q p _ (by have:=HS.out;omega) trivial (by decide) (by decide) (by decide) (by decide) H.out.1 H.out.2.1).mono ?_;rintro e w1 ⟨q',rfl,ht, -,hb⟩;have Y:=hdz (anz ht (H.out.2.2.trans (hb.toBelow.mono H.out.2.2.size)));clear ht hb;go_wp2_with fail
 refine bodyPost_ret (v := .tuple #[.iface 187 (.agg #[.pointer q']),.bool true]) (by simp [results,Tryz.results292,go_sem]) rfl ⟨q',rfl,Y.out.1,Y.out.2⟩
theorem meldNoK (q:Option Addr) (w:World):Calls Tryz.prog 292 #[.agg #[.pointer q],.pointer none,.nilIface] w fun e w' => e = .returned (.tuple #[.nilIface,.bool false]) ∧ Below w.heap.size w w':=by
 have hb1:Below w.heap.size w ((w.alloc (.cells #[.pointer q] 187)).alloc (.cells #[.pointer none] 187)):=(bqA _).alloc (by simp) _;have ht:∀ (w:World),(Instr.typeAssert .nilIface 25 187 true).run Tryz.prog w = .ok (.tuple #[.agg #[.pointer none],.bool false]) w:=fun _ => by kernel_rfl
 go_enter Tryz.func292,Tryz.ntmps292
 go_wp2_with fail
 refine bodyPost_ret (v := .tuple #[.nilIface,.bool false]) (by simp [results,Tryz.results292,go_sem]) rfl ⟨rfl,hb1⟩
theorem minK (h:Lh) (q:Option Addr) (w:World) (hg:h.good) (hh:LAt w h q) :
  Calls Tryz.prog 293 #[.agg #[.pointer q],.pointer none] w fun e w' => e = .returned (.tuple #[el (hd (srt h.all)),.bool (decide (0 < (srt h.all).length))]) ∧ Below w.heap.size w w':=by
 have hm:∀ (k:Nat) (w:World),(method (k + 1) 127 (.agg #[.pointer q]) "Min").run Tryz.prog w = .ok (371,.agg #[.pointer q]) w:=fun _ _ => by kernel_rfl
 have hb1:Below w.heap.size w ((w.alloc (.cells #[.pointer q] 187)).alloc (.cells #[.int .i64 0,.int .i64 0] 29)):=(bqA _).alloc (by simp) _
 have hv:Box2 ((w.alloc (.cells #[.pointer q] 187)).alloc (.cells #[.int .i64 0,.int .i64 0] 29)) (w.heap.size + 1) 29 (.int .i64 0) (.int .i64 0):=by
  have:=Box2.new (w.alloc (.cells #[.pointer q] 187)) 29 (.int .i64 0) (.int .i64 0);simpa only [World.size_alloc] using this
 have H:=hdz (anz (hh.stay hb1) (anz hb1 hv));obtain ⟨x,hx⟩:=exq (h.min);obtain ⟨⟨x1,x2⟩,z⟩:=x;have hx2:=hx.trans (min_srt hg);rw [show hd (srt h.all) = (x1,x2) from (congrArg Prod.fst hx2).symm,show decide (0 < (srt h.all).length) = z from (congrArg Prod.snd hx2).symm];have HM:minV h = .tuple #[.agg #[.int .i64 x1,.int .i64 x2],.bool z]:=by unfold minV;rw [← hx]
 have HN:=hdz HM;clear hh hb1 hg hx hx2 HM hv;go_enter Tryz.func293,Tryz.ntmps293
 go_wp2_with fail
 refine (min_any h q (.pointer none) _ H.out.1).mono ?_;rintro e w1 ⟨he,hb⟩;rw [HN.out] at he;subst he;have hv:=H.out.2.2.stay hb;have c0:=hv.c0;have c1:=hv.c1;have z0:=hv.z0;have z1:=hv.z1;have hs:=hv.set (.int .i64 x1) (.int .i64 x2);have k0:=hs.c0;have k1:=hs.c1;have Y:=hdz (H.out.2.1.trans (hb.mono H.out.2.1.size));clear hb hv hs;go_wp2_with fail
 refine bodyPost_ret (v := .tuple #[.agg #[.int .i64 x1,.int .i64 x2],.bool z]) (by simp [results,Tryz.results293,go_sem,k0,k1]) rfl ⟨rfl,(Y.out.setCell (by simp) _).setCell (by simp) _⟩
theorem popK (h:Lh) (q:Option Addr) (w:World) (hs:h.size < 16777216) (hh:LAt w h q) :
  Calls Tryz.prog 294 #[.agg #[.pointer q],.pointer none] w fun e w' => ∃ q':Option Addr,e = .returned (.tuple #[.iface 187 (.agg #[.pointer q']),.bool h.some]) ∧ LAt w' h.pop q' ∧ Below w.heap.size w w':=by
 have hm:∀ (k:Nat) (w:World),(method (k + 1) 127 (.agg #[.pointer q]) "Pop").run Tryz.prog w = .ok (372,.agg #[.pointer q]) w:=fun _ _ => by kernel_rfl
 have hb1:Below w.heap.size w (w.alloc (.cells #[.pointer q] 187)):=bqA _;have H:=hdz (anz (hh.stay hb1) hb1);have HS:=hdz hs;obtain ⟨z,hz⟩:=exq (h.some);rw [← hz];have HZ:=hdz hz;clear hh hb1 hs hz;go_enter Tryz.func294,Tryz.ntmps294
 go_wp2_with fail
 refine (pop_any none 0 0 h q _ (by have:=HS.out;omega) trivial (by decide) (by decide) (by decide) (by decide) H.out.1).mono ?_;rintro e w1 ⟨q',he,ht, -,hb⟩;rw [← HZ.out] at he;subst he;have Y:=hdz (anz ht trivial);have hT:=H.out.2.trans (hb.toBelow.mono H.out.2.size);have HT:=hdz hT;clear ht hb hT;go_wp2_with fail
 refine bodyPost_ret (v := .tuple #[.iface 187 (.agg #[.pointer q']),.bool z]) (by simp [results,Tryz.results294,go_sem]) rfl ⟨q',rfl,Y.out.1.stay (bqA _),HT.out.alloc HT.out.size _⟩
theorem sizeK (h:Lh) (q:Option Addr) (w:World) (hh:LAt w h q) :
  Calls Tryz.prog 296 #[.agg #[.pointer q]] w fun e w' => e = .returned (.int .i64 (h.size:Nat)) ∧ Below w.heap.size w w':=by
 have hm:∀ (k:Nat) (w:World),(method (k + 1) 127 (.agg #[.pointer q]) "Size").run Tryz.prog w = .ok (373,.agg #[.pointer q]) w:=fun _ _ => by kernel_rfl
 have hb1:Below w.heap.size w (w.alloc (.cells #[.pointer q] 187)):=bqA _;have H:=hdz (anz (hh.stay hb1) hb1);obtain ⟨z,hz⟩:∃ z:Int,z = (h.size:Nat):=⟨_,rfl⟩;rw [← hz];have HZ:=hdz hz;clear hh hb1 hz;go_enter Tryz.func296,Tryz.ntmps296
 go_wp2_with fail
 refine (size_any h q _ H.out.1).mono ?_;rintro e w1 ⟨he,hb⟩;rw [← HZ.out] at he;subst he;have Y:=hdz (H.out.2.trans (hb.mono H.out.2.size));clear hb;go_wp2_with fail
 refine bodyPost_ret (v := .int .i64 z) (by simp [results,Tryz.results296,go_sem]) rfl ⟨rfl,Y.out⟩
theorem kindK (v:Value) (w:World):Calls Tryz.prog 37 #[.agg #[.iface 187 v]] w fun e w' => e = .returned (.int .i64 6) ∧ Below w.heap.size w w':=by
 have hb1:Below w.heap.size w (w.alloc (.cells #[.iface 187 v] 27)):=bqA _;have h1:∀ (w:World),(Instr.typeAssert (.iface 187 v) 25 177 true).run Tryz.prog w = .ok (.tuple #[.agg #[.pointer none],.bool false]) w:=fun _ => by kernel_rfl
 have h2:∀ (w:World),(Instr.typeAssert (.iface 187 v) 25 179 true).run Tryz.prog w = .ok (.tuple #[.agg #[.pointer none,.int .i64 0],.bool false]) w:=fun _ => by kernel_rfl
 have h3:∀ (w:World),(Instr.typeAssert (.iface 187 v) 25 181 true).run Tryz.prog w = .ok (.tuple #[.agg #[.pointer none],.bool false]) w:=fun _ => by kernel_rfl
 have h4:∀ (w:World),(Instr.typeAssert (.iface 187 v) 25 183 true).run Tryz.prog w = .ok (.tuple #[.agg #[.pointer none,.int .i64 0],.bool false]) w:=fun _ => by kernel_rfl
 have h5:∀ (w:World),(Instr.typeAssert (.iface 187 v) 25 185 true).run Tryz.prog w = .ok (.tuple #[.agg #[.pointer none],.bool false]) w:=fun _ => by kernel_rfl
 have h6:∀ (w:World),(Instr.typeAssert (.iface 187 v) 25 187 true).run Tryz.prog w = .ok (.tuple #[v,.bool true]) w:=fun _ => by kernel_rfl
 go_enter Tryz.func37,Tryz.ntmps37
 go_wp2_with fail
 refine bodyPost_ret (v := .int .i64 6) (by simp [results,Tryz.results37,go_sem]) rfl ⟨rfl,hb1⟩
theorem byK (q:Option Addr) (w:World):Calls Tryz.prog 50 #[.agg #[.pointer q]] w fun e w' => e = .returned (.agg #[.iface 187 (.agg #[.pointer q])]) ∧ Below w.heap.size w w':=by
 have hb1:Below w.heap.size w ((w.alloc (.cells #[.pointer q] 127)).alloc (.cells #[.iface 187 (.agg #[.pointer q])] 27)):=(bqA _).alloc (by simp) _;go_enter Tryz.func50,Tryz.ntmps50
 go_wp2_with fail
 refine bodyPost_ret (v := .agg #[.iface 187 (.agg #[.pointer q])]) (by simp [results,Tryz.results50,go_sem]) rfl ⟨rfl,hb1⟩
theorem ofK (A:Option Addr) (xs:List (Int × Int)) (cap:Nat) (w:World) (hr:Row w A xs) (hn:xs.length < 16777216) :
  Calls Tryz.prog 18 #[.pointer none,.int .i64 6,.slice A xs.length cap] w fun e w' => ∃ q':Option Addr,e = .returned (.tuple #[.agg #[.iface 187 (.agg #[.pointer q'])],.int .i64 0]) ∧ LAt w' (ofL xs) q' ∧ Below w.heap.size w w':=by
 have hb1:Below w.heap.size w (w.alloc (.cells #[.nilIface] 27)):=bqA _;have H:=hdz (anz (hr.below hb1) hb1);obtain ⟨L,hL⟩:=exq (xs.length);have HL:=hdz (anz hL (hL ▸ hn:L < 16777216));rw [← hL];clear hr hb1 hL hn;go_enter Tryz.func18,Tryz.ntmps18
 go_wp2_with fail
 have hL:=HL.out.1;subst hL;refine (of_any none 0 0 A xs cap _ trivial (by decide) (by decide) (by decide) (by decide) H.out.1 HL.out.2 (fun _ _ e => by cases e)).mono ?_;rintro e w1 ⟨q',rfl,ht, -,hb⟩;have hB:=hb.toBelow;have hF:w1.heap[w.heap.size]? = some (.cells #[.nilIface] 27 (0,0)):=(hB.block _ (by simp)).trans (heap_alloc_new w _);have Y:=hdz (anz ht (anz (H.out.2.trans (hB.mono H.out.2.size)) hF));clear hB hF;clear ht hb;go_wp2_with fail
 refine (byK q' _).mono ?_;rintro e w2 ⟨rfl,hb2⟩;have hF:=(hb2.block _ (lt_of_heap Y.out.2.2)).trans Y.out.2.2;have k0:=one_cell hF;have z0:=one_thaw hF;have Z:=hdz (anz (Y.out.1.stay hb2) (anz (Y.out.2.1.trans (hb2.mono Y.out.2.1.size)) hF));clear hb2 hF;have k1:=one_cell (heap_put1 Z.out.2.2 (.iface 187 (.agg #[.pointer q'])));go_wp2_with fail
 refine bodyPost_ret (v := .tuple #[.agg #[.iface 187 (.agg #[.pointer q'])],.int .i64 0]) (by simp [results,Tryz.results18,go_sem,k1]) rfl ⟨q',rfl,Z.out.1.kps (Kpt.set Z.out.2.2 (by unfold NodeT Hp.NodeT TreeT;decide) 0 _) (by simp [World.setCell]),Z.out.2.1.setCell (Nat.le_refl _) _⟩
theorem nodes_nh {W W':World} (h:Kpt NH W W'):Kpt NodeT W W':=fun b cs t ht => h b cs t (by unfold NodeT Hp.NodeT TreeT at ht;rcases ht with (rfl | rfl | rfl | rfl) | rfl <;> decide)
def At (W:World) (v:Value) (l:List (Int × Int)):Prop:=∃ q:Option Addr,v = .agg #[.pointer q] ∧ ∃ h:Lh,LAt W h q ∧ h.good ∧ srt h.all = l
theorem kindC:KindC 6 187 291 292 293 294 296 At where
 mI:=fun _ _ _ => by kernel_rfl
 mM:=fun _ _ _ => by kernel_rfl
 mN:=fun _ _ _ => by kernel_rfl
 mP:=fun _ _ _ => by kernel_rfl
 mS:=fun _ _ _ => by kernel_rfl
 cI:=fun _ _ => by kernel_rfl
 cM:=fun _ _ => by kernel_rfl
 cN:=fun _ _ => by kernel_rfl
 cP:=fun _ _ => by kernel_rfl
 cS:=fun _ _ => by kernel_rfl
 stay:=fun ha hb => by
  obtain ⟨q,rfl,h,hh,hg,rfl⟩:=ha;exact ⟨q,rfl,h,hh.stay hb,hg,rfl⟩
 keep:=fun ha hk hs => by
  obtain ⟨q,rfl,h,hh,hg,rfl⟩:=ha;exact ⟨q,rfl,h,hh.kps (nodes_nh hk) hs,hg,rfl⟩
 ins:=fun v l x w ha hn hx => by
  obtain ⟨q,rfl,h,hh,hg,rfl⟩:=ha;rw [size_srt] at hn;exact (insK h x q w hn hh).mono fun e w' ⟨q',he,ht,hb⟩ => ⟨_,he,⟨q',rfl,_,ht,good_insert hg hx,by rw [srt_insert,srt_in]⟩,hb⟩
 meld:=fun v v2 l l2 w ha ha2 hn => by
  obtain ⟨q,rfl,h,hh,hg,rfl⟩:=ha;obtain ⟨p,rfl,h2,hh2,hg2,rfl⟩:=ha2;rw [size_srt,size_srt] at hn;exact (meldK h h2 q p w hn hh hh2).mono fun e w' ⟨q',he,ht,hb⟩ => ⟨_,he,⟨q',rfl,_,ht,good_meld hg hg2,by rw [srt_meld,srt_two]⟩,hb⟩
 meldNo:=fun v l w ha => by
  obtain ⟨q,rfl,h,hh,hg,rfl⟩:=ha;exact meldNoK q w
 min:=fun v l w ha => by
  obtain ⟨q,rfl,h,hh,hg,rfl⟩:=ha;exact minK h q w hg hh
 pop:=fun v l w ha hn => by
  obtain ⟨q,rfl,h,hh,hg,rfl⟩:=ha;rw [size_srt] at hn;exact (popK h q w hn hh).mono fun e w' ⟨q',he,ht,hb⟩ => ⟨_,by rw [← some_srt hg];exact he,⟨q',rfl,_,ht,good_pop hg,srt_pop hg.ok⟩,hb⟩
 size:=fun v l w ha => by
  obtain ⟨q,rfl,h,hh,hg,rfl⟩:=ha;rw [size_srt];exact sizeK h q w hh
 kind:=fun v w => kindK v w
 of:=fun A xs cap w hr hn hf => (ofK A xs cap w hr hn).mono fun e w' ⟨q',he,ht,hb⟩ => ⟨_,he,⟨q',rfl,_,ht,good_of hf,srt_of xs⟩,hb⟩
end Go.Proofs.YtmeodbjlmjpnbaaGreat.U.Bo
