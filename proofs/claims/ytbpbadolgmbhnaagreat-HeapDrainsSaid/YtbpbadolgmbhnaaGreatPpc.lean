/- Elements of the three numbers 0, 1 and 2 as texts: FormatInt and elem.Text at them read no table; what each answers; nothing that was there has changed. No other conditions. -/
import Derived.Test.YtbpbadolgmbhnaaGreatPa
import Derived.Lib.QuietBelow
import Derived.Lib.ItoaLen
import Derived.Lib.ItoaMem
import Derived.Shelf.Strings.Builder1
import Derived.Test.YtbpbadolgmbhnaaGreatProg
import Derived.Test.YtbpbadolgmbhnaaGreatShelf
import Derived.Shelf.Strings.BuilderK
import Derived.Test.YtbpbadolgmbhnaaGreatPpb
import Derived.Deep.LoopGhost
import Derived.Deep.MidRow
set_option maxRecDepth 100000
set_option maxHeartbeats 8000000
namespace Go.Proofs.YtbpbadolgmbhnaaGreat
open Go.Sort Go.RowKit
def sm (v:Int):Prop:=v = 0 ∨ v = 1 ∨ v = 2
theorem sm.wide {v:Int} (h:sm v):in64 v:=by rcases h with rfl | rfl | rfl <;> unfold in64 <;> omega
theorem digit_0 (w:World):Calls Tryz.prog 223 #[.int .i64 0] w fun e w' => e = .returned (.string ⟨#[48]⟩) ∧ w' = w:=by
 go_enter Tryz.func223,Tryz.ntmps223
 go_wp2_with fail
 refine bodyPost_ret (v := .string ⟨#[48]⟩) (by simp [results,Tryz.results223,go_sem,show (⟨#[48,49,50,51,52,53,54,55,56,57,97,98,99,100,101,102,103,104,105,106,107,108,109,110,111,112,113,114,115,116,117,118,119,120,121,122]⟩:ByteArray).extract 0 1 = ⟨#[48]⟩ from ByteArray.ext rfl]) rfl ⟨rfl,rfl⟩
theorem inner_0 (w:World):Calls Tryz.prog 216 #[.int .i64 0,.int .i64 10] w fun e w' => e = .returned (.string ⟨#[48]⟩) ∧ w' = w:=by
 go_enter Tryz.func216,Tryz.ntmps216
 go_wp2_with fail
 refine (digit_0 w).mono ?_;rintro e w1 ⟨rfl,rfl⟩;go_wp2_with fail
 refine bodyPost_ret (v := .string ⟨#[48]⟩) (by simp [results,Tryz.results216,go_sem]) rfl ⟨rfl,rfl⟩
theorem format_0 (w:World):Calls Tryz.prog 207 #[.int .i64 0,.int .i64 10] w fun e w' => e = .returned (.string ⟨#[48]⟩) ∧ w' = w:=by
 go_enter Tryz.func207,Tryz.ntmps207
 go_wp2_with fail
 refine (inner_0 w).mono ?_;rintro e w1 ⟨rfl,rfl⟩;go_wp2_with fail
 refine bodyPost_ret (v := .string ⟨#[48]⟩) (by simp [results,Tryz.results207,go_sem]) rfl ⟨rfl,rfl⟩
theorem digit_1 (w:World):Calls Tryz.prog 223 #[.int .i64 1] w fun e w' => e = .returned (.string ⟨#[49]⟩) ∧ w' = w:=by
 go_enter Tryz.func223,Tryz.ntmps223
 go_wp2_with fail
 refine bodyPost_ret (v := .string ⟨#[49]⟩) (by simp [results,Tryz.results223,go_sem,show (⟨#[48,49,50,51,52,53,54,55,56,57,97,98,99,100,101,102,103,104,105,106,107,108,109,110,111,112,113,114,115,116,117,118,119,120,121,122]⟩:ByteArray).extract 1 2 = ⟨#[49]⟩ from ByteArray.ext rfl]) rfl ⟨rfl,rfl⟩
theorem inner_1 (w:World):Calls Tryz.prog 216 #[.int .i64 1,.int .i64 10] w fun e w' => e = .returned (.string ⟨#[49]⟩) ∧ w' = w:=by
 go_enter Tryz.func216,Tryz.ntmps216
 go_wp2_with fail
 refine (digit_1 w).mono ?_;rintro e w1 ⟨rfl,rfl⟩;go_wp2_with fail
 refine bodyPost_ret (v := .string ⟨#[49]⟩) (by simp [results,Tryz.results216,go_sem]) rfl ⟨rfl,rfl⟩
theorem format_1 (w:World):Calls Tryz.prog 207 #[.int .i64 1,.int .i64 10] w fun e w' => e = .returned (.string ⟨#[49]⟩) ∧ w' = w:=by
 go_enter Tryz.func207,Tryz.ntmps207
 go_wp2_with fail
 refine (inner_1 w).mono ?_;rintro e w1 ⟨rfl,rfl⟩;go_wp2_with fail
 refine bodyPost_ret (v := .string ⟨#[49]⟩) (by simp [results,Tryz.results207,go_sem]) rfl ⟨rfl,rfl⟩
theorem digit_2 (w:World):Calls Tryz.prog 223 #[.int .i64 2] w fun e w' => e = .returned (.string ⟨#[50]⟩) ∧ w' = w:=by
 go_enter Tryz.func223,Tryz.ntmps223
 go_wp2_with fail
 refine bodyPost_ret (v := .string ⟨#[50]⟩) (by simp [results,Tryz.results223,go_sem,show (⟨#[48,49,50,51,52,53,54,55,56,57,97,98,99,100,101,102,103,104,105,106,107,108,109,110,111,112,113,114,115,116,117,118,119,120,121,122]⟩:ByteArray).extract 2 3 = ⟨#[50]⟩ from ByteArray.ext rfl]) rfl ⟨rfl,rfl⟩
theorem inner_2 (w:World):Calls Tryz.prog 216 #[.int .i64 2,.int .i64 10] w fun e w' => e = .returned (.string ⟨#[50]⟩) ∧ w' = w:=by
 go_enter Tryz.func216,Tryz.ntmps216
 go_wp2_with fail
 refine (digit_2 w).mono ?_;rintro e w1 ⟨rfl,rfl⟩;go_wp2_with fail
 refine bodyPost_ret (v := .string ⟨#[50]⟩) (by simp [results,Tryz.results216,go_sem]) rfl ⟨rfl,rfl⟩
theorem format_2 (w:World):Calls Tryz.prog 207 #[.int .i64 2,.int .i64 10] w fun e w' => e = .returned (.string ⟨#[50]⟩) ∧ w' = w:=by
 go_enter Tryz.func207,Tryz.ntmps207
 go_wp2_with fail
 refine (inner_2 w).mono ?_;rintro e w1 ⟨rfl,rfl⟩;go_wp2_with fail
 refine bodyPost_ret (v := .string ⟨#[50]⟩) (by simp [results,Tryz.results207,go_sem]) rfl ⟨rfl,rfl⟩
theorem formatInt_small (n:Int) (h:sm n) (w:World):Calls Tryz.prog 207 #[.int .i64 n,.int .i64 10] w fun e w' => e = .returned (.string ⟨(Lib.itoa n).toArray⟩) ∧ Below w.heap.size w w':=by
 rcases h with rfl | rfl | rfl
 ·exact (format_0 w).mono fun _ _ ⟨a,b⟩ => ⟨by rw [a,show Lib.itoa 0 = [48] from by decide +kernel],by rw [b];exact Below.refl _ _⟩
 ·exact (format_1 w).mono fun _ _ ⟨a,b⟩ => ⟨by rw [a,show Lib.itoa 1 = [49] from by decide +kernel],by rw [b];exact Below.refl _ _⟩
 ·exact (format_2 w).mono fun _ _ ⟨a,b⟩ => ⟨by rw [a,show Lib.itoa 2 = [50] from by decide +kernel],by rw [b];exact Below.refl _ _⟩
theorem text_small (p q:Int) (hp:sm p) (hq:sm q) (w:World) :
  Calls Tryz.prog 196 #[.agg #[.int .i64 p,.int .i64 q]] w fun e w' => e = .returned (.string ⟨(textOf p q).toArray⟩) ∧ Below w.heap.size w w':=by
 have lp:=Lib.itoa_length_le p hp.wide.1 hp.wide.2;have lq:=Lib.itoa_length_le q hq.wide.1 hq.wide.2
 have hF:∀ (n:Int) (h0:sm n) (o:Obj) d os,Calls Tryz.prog 207 #[.int .i64 n,.int .i64 10] (grow (redrawn (w.alloc o) d) os) fun e w'' => e = .returned (.string ⟨(Lib.itoa n).toArray⟩) ∧ ∃ r:Regrown,w'' = grow (redrawn (w.alloc o) r.d) r.os :=
  fun n h0 o d os => Calls.regrown_of (formatInt_small n h0 _)
 have HF:=hdz hF;clear hF;obtain ⟨c0,c1,_,_,_,hb⟩:=pair_after (w:=w) (x := .int .i64 p) (y := .int .i64 q) (t := 33) (Below.refl _ _);have k0:=fun d os => cell_regrown c0 d os;have k1:=fun d os => cell_regrown c1 d os;clear c0 c1;have HB:=hdz hb;clear hb;have n1:¬ 9223372036854775807 < (Lib.itoa p).length + 1:=by omega
 have n2:¬ 9223372036854775807 < (Lib.itoa p).length + 1 + (Lib.itoa q).length:=by omega
 go_enter Tryz.func196,Tryz.ntmps196
 go_wp2_with fail
 refine wp_region_quiet_below (by kernel_rfl) (by kernel_rfl) ?_;repeat (go_big_quiet_step ((with_reducible exact HF.out _ (by assumption) _ _ _)))
 refine wpQuiet_nil ?_;intro _ hw';obtain ⟨⟨dq,osq⟩,hw''⟩:=hw';subst hw'';go_wp2
 go_ret
 refine ⟨?_,HB.out.trans ((below_regrown _ dq osq).mono HB.out.size)⟩;rw [show (⟨#[58]⟩:ByteArray) = ⟨[58].toArray⟩ from rfl,append_bytes,append_bytes];simp [textOf]
def sfits (l:List (Int × Int)):Prop:=∀ e ∈ l,sm e.1 ∧ sm e.2
theorem sfits.append {a b:List (Int × Int)} (h:sfits (a ++ b)):sfits a ∧ sfits b:=⟨fun e he => h e (by simp [he]),fun e he => h e (by simp [he])⟩
theorem sfits.cons {x:Int × Int} {b:List (Int × Int)} (h:sfits (x :: b)):(sm x.1 ∧ sm x.2) ∧ sfits b:=⟨h x (by simp),fun e he => h e (by simp [he])⟩
theorem sfits.wide {l:List (Int × Int)} (h:sfits l):fits l:=fun e he => ⟨(h e he).1.wide,(h e he).2.wide⟩
theorem textS_length (p q:Int) (hp:sm p) (hq:sm q):(textOf p q).length ≤ 43:=textOf_length p q hp.wide hq.wide
theorem textS_any (x:Int × Int) (h:sm x.1 ∧ sm x.2) (w:World):Calls Tryz.prog 196 #[.agg #[.int .i64 x.1,.int .i64 x.2]] w fun e w' => e = .returned (.string ⟨(textOf x.1 x.2).toArray⟩) ∧ Below w.heap.size w w':=text_small x.1 x.2 h.1 h.2 w
end Go.Proofs.YtbpbadolgmbhnaaGreat
namespace Go.Proofs
open Go.Shelf
def Tryz.lays166_ren:Go.Shelf.Ren:=⟨fun | 166 => 195 | 240 => 206 | 276 => 215 | n => n,fun | 70 => 320 | 9 => 9 | 0 => 0 | 72 => 322 | 37 => 281 | 3 => 3 | 4 => 4 | 5 => 5 | 20 => 20 | 75 => 331 | 80 => 72 | 164 => 356 | n => n,fun | n => n⟩
theorem Tryz.lays166:Go.Proofs.Lays.n166 Tryz.prog Tryz.lays166_ren:={
 mixed:=by kernel_rfl
 f166:=Tryz.func195.trans (congrArg some (by kernel_rfl))
 f240:=Tryz.func206.trans (congrArg some (by kernel_rfl))
 f276:=Tryz.func215.trans (congrArg some (by kernel_rfl))
 t0:=Tryz.underlying0
 a0:=Tryz.isAgg0
 z0:=Tryz.sizeOf0
 v0:=Tryz.zeroValue0
 t3:=Tryz.underlying3
 a3:=Tryz.isAgg3
 z3:=Tryz.sizeOf3
 v3:=Tryz.zeroValue3
 t4:=Tryz.underlying4
 a4:=Tryz.isAgg4
 z4:=Tryz.sizeOf4
 v4:=Tryz.zeroValue4
 t9:=Tryz.underlying9
 a9:=Tryz.isAgg9
 z9:=Tryz.sizeOf9
 v9:=Tryz.zeroValue9
 t20:=Tryz.underlying20
 a20:=Tryz.isAgg20
 z20:=Tryz.sizeOf20
 v20:=Tryz.zeroValue20
 t37:=Tryz.underlying281
 a37:=Tryz.isAgg281
 z37:=Tryz.sizeOf281
 v37:=Tryz.zeroValue281
 t70:=Tryz.underlying320
 a70:=Tryz.isAgg320
 z70:=Tryz.sizeOf320
 v70:=Tryz.zeroValue320
 t72:=Tryz.underlying322
 a72:=Tryz.isAgg322
 z72:=Tryz.sizeOf322
 v72:=Tryz.zeroValue322
 t75:=Tryz.underlying331
 a75:=Tryz.isAgg331
 z75:=Tryz.sizeOf331
 v75:=Tryz.zeroValue331
 t164:=Tryz.underlying356
 a164:=Tryz.isAgg356
 z164:=Tryz.sizeOf356
 v164:=Tryz.zeroValue356 }
theorem Tryz.Builder_Extra_166:Builder.Extra Tryz.prog Tryz.lays166_ren:={
 sizeBuilder:=by kernel_rfl
 liesBuilder:=by kernel_rfl
 t5:=Tryz.underlying5
 a5:=Tryz.isAgg5
 z5:=Tryz.sizeOf5
 v5:=Tryz.zeroValue5
 infoByte:=by kernel_rfl
 cellsByte:=by kernel_rfl
 sizeByte:=by kernel_rfl
 neB5:=by decide }
end Go.Proofs
namespace Go.Proofs.YtbpbadolgmbhnaaGreat
open Go.Sort Go.RowKit
def Bld (base g:Nat) (l:List UInt8) (w:World):Prop:=Lib.IsBuilderF 322 5 base g (Lib.byteCells l) w
theorem builderAt_grown {base g:Nat} {p:Value} {bs:List Value} {w w':World} {row:Option Nat} (h:Lib.BuilderAtF 322 5 base g p bs w) (hg:w.grownBy w' row)
  (hr:∀ k,row = some k → ∃ cs t fz,w.heap[k]? = some (.cells cs t fz) ∧ t ≠ 322 ∧ t ≠ 5):Lib.BuilderAtF 322 5 base g p bs w':=by
 obtain ⟨hB,v,hh,hown,hne⟩:=h;refine ⟨hB,v,(hg.block g (lt_of_heap hh) (fun e => ?_)).trans hh,hown.kept hg ?_,hne⟩
 ·obtain ⟨cs,t,fz,h1,h2, -⟩:=hr g e.symm;rw [hh] at h1
  cases h1
  exact h2 rfl
 ·cases hv:v.ownBlock with
  | none => exact .inl rfl
  | some k =>
   refine .inr (fun e => ?_);obtain ⟨cs,t,fz,h1, -,h3⟩:=hr k e.symm;obtain ⟨c,f,h4⟩:=Lib.ownsRowF_kind hown k hv;rw [h4] at h1
   cases h1
   exact h3 rfl
theorem Bld.grown {base g:Nat} {l:List UInt8} {w w':World} {row:Option Nat} (h:Bld base g l w) (hg:w.grownBy w' row)
  (hr:∀ k,row = some k → ∃ cs t fz,w.heap[k]? = some (.cells cs t fz) ∧ t ≠ 322 ∧ t ≠ 5):Bld base g l w':=h.imp (builderAt_grown · hg hr) (builderAt_grown · hg hr)
theorem Bld.stay {base g:Nat} {l:List UInt8} {w w':World} (h:Bld base g l w) (hb:Below w.heap.size w w'):Bld base g l w' :=
 h.grown (row:=none) ⟨hb.os,hb.tape,hb.output,hb.size,fun k hk _ => hb.block k hk⟩ (fun k e => by cases e)
theorem Bld.block {base g:Nat} {l:List UInt8} {w:World} (h:Bld base g l w):base ≤ g ∧ ∃ cs,w.heap[g]? = some (.cells cs 322 (0,0)):=by
 rcases h with ⟨hB,v,hh, -⟩ | ⟨hB,v,hh, -⟩ <;> exact ⟨hB,_,hh⟩
theorem newBuilder (w:World):Bld w.heap.size w.heap.size [] (w.alloc (.cells #[.pointer none,.slice none 0 0] 322)) :=
 .inl ⟨Nat.le_refl _,.slice none 0 0,heap_alloc_new w _,World.ownsRowF_nil _ _ _ _,by simp [Value.ownBlock]⟩
structure Wrote (base g:Nat) (w w':World):Prop where
 below:Below base w w'
 others:Lib.OthersKept 5 (some g) w w'
theorem Wrote.heap {base g:Nat} {w w':World} (h:Wrote base g w w') {k:Nat} {cs:Array Value} {t:TypeId} {z:Nat × Nat} (hk:w.heap[k]? = some (.cells cs t z)) (hg:k ≠ g) (ht:t ≠ 5):w'.heap[k]? = some (.cells cs t z) :=
 h.others k _ hk (fun e => hg (by injection e)) (fun c fz e => ht (by injection e))
theorem Wrote.trans {base g:Nat} {u v w:World} (h:Wrote base g u v) (k:Wrote base g v w):Wrote base g u w:=⟨h.below.trans k.below,h.others.trans k.others⟩
theorem write_any (base g:Nat) (l s:List UInt8) (w:World) (h:Bld base g l w) (hl:l.length + s.length ≤ 140737488355328) (hbw:base ≤ w.heap.size) :
  Calls Tryz.prog 195 #[.pointer (some ⟨g,0,none⟩),.string ⟨s.toArray⟩] w fun e w' => ∃ v,e = .returned v ∧ Bld base g (l ++ s) w' ∧ Wrote base g w w':=by
 refine (Any.Builder_WriteString_k Tryz.lays166 Tryz.Builder_Extra_166 base g (Lib.byteCells l) ⟨s.toArray⟩ w h (by rw [Lib.byteCells_length];simpa [ByteArray.size] using hl) hbw).mono fun e w' ⟨he,hB,hb,ho⟩ => ⟨_,he,?_,hb,ho⟩;rw [Lib.strCells_eq] at hB;have e1:Lib.byteCells l ++ Lib.byteCells (⟨s.toArray⟩:ByteArray).data.toList = Lib.byteCells (l ++ s):=by rw [Lib.byteCells_append]
 rw [e1] at hB;exact Or.inr hB
theorem writeB (base g:Nat) (l t:List UInt8) (s:ByteArray) (w:World) (hs:s = ⟨t.toArray⟩) (h:Bld base g l w) (hl:l.length + t.length ≤ 140737488355328) (hbw:base ≤ w.heap.size) :
  Calls Tryz.prog 195 #[.pointer (some ⟨g,0,none⟩),.string s] w fun e w' => ∃ v,e = .returned v ∧ Bld base g (l ++ t) w' ∧ Wrote base g w w':=by
 rw [hs];exact write_any base g l t w h hl hbw
theorem string_any (base g:Nat) (l:List UInt8) (w:World) (h:Bld base g l w) (hb:base ≤ w.heap.size):Calls Tryz.prog 192 #[.pointer (some ⟨g,0,none⟩)] w fun e w' => e = .returned (.string ⟨l.toArray⟩) ∧ Below base w w' :=
 (Any.Builder_String_any_f Tryz.lays169 Tryz.Builder_Extra_169 base g l w h hb).mono fun _ _ ⟨he,_,hw⟩ => ⟨he,hw⟩
theorem one_bytes (c:UInt8) (t:List UInt8):(⟨#[c]⟩:ByteArray) ++ ⟨t.toArray⟩ = ⟨(c :: t).toArray⟩:=append_bytes [c] t
end Go.Proofs.YtbpbadolgmbhnaaGreat
namespace Go.Proofs.YtbpbadolgmbhnaaGreat.Pd
open Go.Sort Go.RowKit
def cellsQ (ps:List (Option Addr × Nat)):List Value:=ps.flatMap fun p => [.pointer p.1,.int .i64 (p.2:Int)]
theorem cellsQ_length (ps:List (Option Addr × Nat)):(cellsQ ps).length = ps.length * 2:=by
 induction ps with
 | nil => rfl
 | cons x r ih => simp only [cellsQ,List.flatMap_cons,List.length_append,List.length_cons,List.length_nil] at *;omega
theorem cellsQ_append (xs ys:List (Option Addr × Nat)):cellsQ (xs ++ ys) = cellsQ xs ++ cellsQ ys:=by simp [cellsQ]
theorem cellsQ_one (ps:List (Option Addr × Nat)):∀ v ∈ cellsQ ps,v.oneCell' = true:=by
 intro v hv;simp only [cellsQ,List.mem_flatMap] at hv;obtain ⟨x,_,hx⟩:=hv;simp at hx;rcases hx with rfl | rfl <;> rfl
theorem infoQ:(Tryz.prog.info? 225).map (fun i => (i.zero,i.size,i.bytes)) = some (some (.agg #[.pointer none,.int .i64 0]),2,16):=by kernel_rfl
def OwnQ (w:World) (base:Nat) (v:Value) (ps:List (Option Addr × Nat)):Prop:=w.ownsRow base 225 2 v ps.length (cellsQ ps)
theorem OwnQ.below {w w':World} {base:Nat} {v:Value} {ps:List (Option Addr × Nat)} (h:OwnQ w base v ps) (hb:Below w.heap.size w w'):OwnQ w' base v ps:=by
 refine World.ownsRow.kept h (row:=none) ⟨hb.os,hb.tape,hb.output,hb.size,fun k hk _ => hb.block k hk⟩ ?_
 cases v.ownBlock <;> simp
theorem OwnQ.kind {w:World} {base:Nat} {v:Value} {ps:List (Option Addr × Nat)} (h:OwnQ w base v ps):∀ k,v.ownBlock = some k → base ≤ k ∧ k < w.heap.size ∧ ∃ cs,w.heap[k]? = some (.cells cs 225 (0,0)):=by
 intro k hk;rcases h.2 with ⟨rfl, -⟩ | ⟨g,cap,cur,rfl,hb,hg, -⟩
 ·cases hk
 ·cases hk
  exact ⟨hb,lt_of_heap hg,cur,hg⟩
theorem OwnQ.wrote {w w':World} {base g:Nat} {l:List UInt8} {v:Value} {ps:List (Option Addr × Nat)} (h:OwnQ w base v ps) (hB:Bld base g l w) (hw:Wrote base g w w'):OwnQ w' base v ps:=by
 refine ⟨h.1,?_⟩;rcases h.2 with hn | ⟨k,cap,cur,rfl,hb,hg,rest⟩
 ·exact .inl hn
 ·refine .inr ⟨k,cap,cur,rfl,hb,hw.heap hg (fun e => ?_) (by decide),rest⟩;obtain ⟨-,cs,h1⟩:=hB.block;rw [← e,hg] at h1
  cases h1
theorem OwnQ.last {w:World} {base:Nat} {v:Value} {ps:List (Option Addr × Nat)} {x:Option Addr × Nat} (h:OwnQ w base v (ps ++ [x])):∃ g cap,v = .slice (some ⟨g,0,none⟩) (ps.length + 1) cap ∧ ps.length + 1 ≤ cap ∧ cap ≤ 9223372036854775807 ∧
  w.cell? ⟨g,ps.length * 2,none⟩ = some (.pointer x.1) ∧ w.cell? ⟨g,ps.length * 2 + 1,none⟩ = some (.int .i64 (x.2:Int)) ∧ OwnQ w base (.slice (some ⟨g,0,none⟩) ps.length cap) ps:=by
 have h0:=h;have hl:(ps ++ [x]).length = ps.length + 1:=by simp
 rcases h.2 with ⟨-,hn⟩ | ⟨g,cap,cur,rfl,hb,hg,hc,hm,hs,ht⟩
 ·rw [hl] at hn;omega
 ·rw [hl] at hc ht ⊢;unfold OwnQ at h0;rw [hl] at h0
  have hcell:∀ j u,(cellsQ (ps ++ [x]))[j]? = some u → w.cell? ⟨g,j,none⟩ = some u:=fun j u hu => by
   have hj:j < (ps.length + 1) * 2:=by
    have:=(List.getElem?_eq_some_iff.1 hu).1;rw [cellsQ_length,hl] at this;exact this
   rw [World.ownsRow.cellAt h0 j hj];exact hu
  have e0:(cellsQ (ps ++ [x]))[ps.length * 2]? = some (.pointer x.1):=by
   rw [cellsQ_append,List.getElem?_append_right (by rw [cellsQ_length];omega),cellsQ_length,Nat.sub_self];rfl
  have e1:(cellsQ (ps ++ [x]))[ps.length * 2 + 1]? = some (.int .i64 (x.2:Int)):=by
   rw [cellsQ_append,List.getElem?_append_right (by rw [cellsQ_length];omega),cellsQ_length,show ps.length * 2 + 1 - ps.length * 2 = 1 by omega];rfl
  refine ⟨g,cap,rfl,hc,by unfold maxLen at hm;omega,hcell _ _ e0,hcell _ _ e1,cellsQ_length ps,.inr ⟨g,cap,cur,rfl,hb,hg,by omega,hm,hs,?_⟩⟩;rw [show cur.toList.take (ps.length * 2) = (cur.toList.take ((ps.length + 1) * 2)).take (ps.length * 2) by rw [List.take_take];congr 1;omega,ht,cellsQ_append,List.take_append_of_le_length (by rw [cellsQ_length];omega),List.take_of_length_le (by rw [cellsQ_length];omega)]
theorem OwnQ.one (w:World) (p:Option Addr) (e:Nat):OwnQ (w.alloc (.cells #[.pointer p,.int .i64 (e:Int)] 225)) w.heap.size (.slice (some ⟨w.heap.size,0,none⟩) 1 1) [(p,e)] :=
 ⟨rfl,.inr ⟨w.heap.size,1,#[.pointer p,.int .i64 (e:Int)],rfl,Nat.le_refl _,heap_alloc_new w _,Nat.le_refl _,by unfold maxLen;omega,rfl,rfl⟩⟩
theorem OwnQ.empty {w:World} {base:Nat} {v:Value} {ps:List (Option Addr × Nat)} (h:OwnQ w base v ps):∃ A c,v = .slice A ps.length c:=by
 rcases h.2 with ⟨rfl,hn⟩ | ⟨g,cap,cur,rfl, -⟩
 ·exact ⟨none,0,by rw [hn]⟩
 ·exact ⟨_,cap,rfl⟩
theorem OwnQ.lower {w:World} {base base':Nat} {v:Value} {ps:List (Option Addr × Nat)} (h:OwnQ w base v ps) (hb:base' ≤ base):OwnQ w base' v ps :=
 ⟨h.1,h.2.imp id (fun ⟨g,cap,cur,a,b,r⟩ => ⟨g,cap,cur,a,Nat.le_trans hb b,r⟩)⟩
theorem append_listQ (w:World) (base:Nat) (v:Value) (ps:List (Option Addr × Nat)) (q:Option Addr) (e:Nat) (hown:OwnQ w base v ps) (hlen:ps.length < 1073741824) (hb:base ≤ w.heap.size) :
  ∃ v' w',(Builtin.append_ #[334, 334] 334 #[v,.slice (some ⟨w.heap.size,0,none⟩) 1 1]).run Tryz.prog (w.alloc (.cells #[.pointer q,.int .i64 (e:Int)] 225)) = .ok v' w' ∧
   OwnQ w' base v' (ps ++ [(q,e)]) ∧ (w.alloc (.cells #[.pointer q,.int .i64 (e:Int)] 225)).grownBy w' v.ownBlock:=by
 obtain ⟨i0,hi,hz0,hz1,hz2⟩:=info_parts infoQ;have hown1:=hown.below ((Below.refl w.heap.size w).alloc (Nat.le_refl _) (.cells #[.pointer q,.int .i64 (e:Int)] 225))
 have hc:∀ j u,(cellsQ [(q,e)])[j]? = some u → (w.alloc (.cells #[.pointer q,.int .i64 (e:Int)] 225)).cell? ((⟨w.heap.size,0,none⟩:Addr).add j) = some u:=by
  intro j u hu;have ha:(⟨w.heap.size,0,none⟩:Addr).add j = ⟨w.heap.size,j,none⟩:=by rw [add_plain,Nat.zero_add]
  rw [ha];have h1:=heap_alloc_new w (.cells #[.pointer q,.int .i64 (e:Int)] 225);have h2:cellsQ [(q,e)] = [.pointer q,.int .i64 (e:Int)]:=rfl;rw [h2] at hu;simp only [World.cell?,h1];simpa using hu
 obtain ⟨v',w',h1,h2,h3,_⟩:=run_append_own_at (P:=Tryz.prog) (w.alloc (.cells #[.pointer q,.int .i64 (e:Int)] 225)) base 334 334 225 i0 _ 2 16 Tryz.underlying334 hi hz0 hz1 hz2 rfl (by omega) v ps.length (cellsQ ps) hown1 ⟨w.heap.size,0,none⟩ 1 1 (cellsQ [(q,e)]) rfl hc (cellsQ_one _) (by unfold maxLen;omega) (by omega) (by simp only [World.size_alloc];omega);refine ⟨v',w',h1,?_,h3⟩;unfold OwnQ;rw [cellsQ_append,List.length_append];exact h2
theorem set_two (l:List Value) (a b a' b':Value) (n:Nat) (hn:l.length = n):((l ++ [a,b]).set n a').set (n + 1) b' = l ++ [a',b']:=by
 subst hn;induction l with
 | nil => rfl
 | cons x l ih => simp only [List.cons_append,List.length_cons,List.set_cons_succ,ih]
theorem OwnQ.turn {w:World} {base g n cap:Nat} {ps:List (Option Addr × Nat)} {x:Option Addr × Nat} (h:OwnQ w base (.slice (some ⟨g,0,none⟩) n cap) (ps ++ [x])) (q:Option Addr) (e k:Nat) (hk:k = ps.length) :
  OwnQ ((w.setCell ⟨g,k * 2,none⟩ (.pointer q)).setCell ⟨g,k * 2 + 1,none⟩ (.int .i64 (e:Int))) base (.slice (some ⟨g,0,none⟩) n cap) (ps ++ [(q,e)]):=by
 have hl:(ps ++ [x]).length = ps.length + 1:=by simp
 have hl':(ps ++ [(q,e)]).length = ps.length + 1:=by simp
 have e1:(cellsQ ps).length = k * 2:=by rw [cellsQ_length,hk]
 have e2:cellsQ (ps ++ [x]) = cellsQ ps ++ [.pointer x.1,.int .i64 (x.2:Int)]:=cellsQ_append _ _;have e3:cellsQ (ps ++ [(q,e)]) = cellsQ ps ++ [.pointer q,.int .i64 (e:Int)]:=cellsQ_append _ _;have hz:=set_two (cellsQ ps) (.pointer x.1) (.int .i64 (x.2:Int)) (.pointer q) (.int .i64 (e:Int)) (k * 2) e1;rw [← e2,← e3] at hz;rcases h.2 with ⟨e', -⟩ | ⟨g',cap',cur,e',hb,hg,hc,hm,hs,ht⟩
 ·cases e'
 ·injection e' with e4 e5 e6
  injection e4 with e4
  injection e4 with e4
  subst e4;subst e6;refine ⟨cellsQ_length _,.inr ⟨g,cap,(cur.setIfInBounds (k * 2) (.pointer q)).setIfInBounds (k * 2 + 1) (.int .i64 (e:Int)),by rw [e5,hl,hl'],hb,heap_put (j:=k * 2 + 1) (heap_put (j:=k * 2) hg _) _,by rw [hl'];rw [hl] at hc;exact hc,hm,by rw [Array.size_setIfInBounds,Array.size_setIfInBounds];exact hs,?_⟩⟩;rw [hl] at ht;rw [hl',Array.toList_setIfInBounds,Array.toList_setIfInBounds,List.take_set,List.take_set,ht];exact hz
theorem two_bytes (c d:UInt8) (t:List UInt8):(⟨#[c,d]⟩:ByteArray) ++ ⟨t.toArray⟩ = ⟨(c :: d :: t).toArray⟩:=append_bytes [c,d] t
def waitText:List Kd → List UInt8
 | [] => []
 | k :: r => k.show ++ 41 :: waitText r
def waitN:List Kd → Nat
 | [] => 0
 | k :: r => 2 * k.size + 1 + waitN r
theorem wait_cons (x:Int × Int) (ks r:Kd) (ts:List Kd):waitText (.cons x ks r :: ts) = 32 :: 40 :: (textOf x.1 x.2 ++ waitText (ks :: r :: ts)):=by
 simp only [waitText,Kd.show,List.append_assoc,List.cons_append,List.nil_append]
theorem wait_len:∀ ts:List Kd,ts.length ≤ waitN ts
 | [] => Nat.le_refl _
 | k :: r => by simp only [waitN,List.length_cons];have:=wait_len r;omega
def WaitAt (W:World):List Kd → List (Option Addr × Nat) → Prop
 | [],qs => qs = []
 | k :: ts,qs => ∃ q qs',qs = q :: qs' ∧ KAt W k q.1 ∧ q.2 = k.len ∧ sfits k.all ∧ WaitAt W ts qs'
section
variable {W W':World}
theorem WaitAt.kp (h:Kp W W'):∀ {ts:List Kd} {qs:List (Option Addr × Nat)},WaitAt W ts qs → WaitAt W' ts qs
 | [],_,hp => hp
 | _ :: _,_,⟨q,qs',e,h1,h2,h3,h4⟩ => ⟨q,qs',e,h1.kp h,h2,h3,WaitAt.kp h h4⟩
theorem WaitAt.length:∀ {ts:List Kd} {qs:List (Option Addr × Nat)},WaitAt W ts qs → qs.length = ts.length
 | [],_,h => by rw [h];rfl
 | _ :: _,_,⟨_,_,e,_,_,_,h⟩ => by rw [e,List.length_cons,h.length,List.length_cons]
theorem _root_.Go.Proofs.YtbpbadolgmbhnaaGreat.Wrote.kp {base g:Nat} {l:List UInt8} (h:Wrote base g W W') (hB:Bld base g l W):Kp W W':=fun k cs t ht e => h.heap e (fun ek => by
 obtain ⟨-,cs',h1⟩:=hB.block;rw [← ek,e] at h1
 cases h1
 revert ht
 unfold NodeT;decide) (fun et => by subst et;revert ht;unfold NodeT;decide)
end
theorem first_c {w:World} {x:Int × Int} {ks r:Kd} {p:Option Addr} {n:Int} (h:KAt w (.cons x ks r) p):Calls Tryz.prog 197 #[Lt.lst p n] w fun e w' => ∃ b kp,e = .returned (.tuple #[hp (some ⟨b,0,none⟩),.bool true]) ∧ w'.heap[b]? = some (nodeObj x kp ks.len (1 + ks.size)) ∧ KAt w' ks kp ∧ Below w.heap.size w w':=by
 obtain ⟨ps,h1,q,ps',rfl,⟨b,kp,rfl,hq1,hq2⟩, -⟩:=h.list;exact (Lt.first_cons p _ ps' n w h1).mono fun e w' ⟨he,hb⟩ => ⟨b,kp,he,(hb.block _ (lt_of_heap hq1)).trans hq1,hq2.stay hb,hb⟩
structure Sh (w:World) (g:Nat) (t:Lh) (ts:List Kd) (qs:List (Option Addr × Nat)) (pre:List UInt8) (v:Value) (W:World):Prop where
 own:OwnQ W g v qs.reverse
 wa:WaitAt W ts qs
 tx:pre ++ waitText ts = t.show
 bl:Bld g g pre W
 be:Below w.heap.size w W
 gs:g ≤ W.heap.size
 gw:w.heap.size ≤ g
section
variable {w W W':World} {g:Nat} {t:Lh} {ts:List Kd} {qs:List (Option Addr × Nat)} {pre:List UInt8} {v:Value}
theorem Sh.stay (h:Sh w g t ts qs pre v W) (hb:Below W.heap.size W W'):Sh w g t ts qs pre v W' :=
 ⟨h.own.below hb,h.wa.kp (Kpt.below hb),h.tx,h.bl.stay hb,h.be.trans (hb.mono h.be.size),Nat.le_trans h.gs hb.size,h.gw⟩
end
theorem infoL2:(Tryz.prog.info? 225).map (·.size) = some 2:=by kernel_rfl
theorem wpList_store_lst {ops:Array Oper} {rest:List Oper} {op:Oper} {a:Act} {w:World} {Q:Exit → Act → World → Prop} (hgd:op.guard = none) (x y:Operand) (ho:op.op = .store 225 x y)
  (b k:Nat) (hx:a.eval x = .pointer (some ⟨b,k,none⟩)) {q:Option Addr} {n:Int} (hy:a.eval y = .agg #[.pointer q,.int .i64 n]) {u0 u1:Value} (h0:w.cell? ⟨b,k,none⟩ = some u0) (h1:w.cell? ⟨b,k + 1,none⟩ = some u1) (z0:w.frozen? ⟨b,k,none⟩ = false) (z1:w.frozen? ⟨b,k + 1,none⟩ = false)
  (h:∀ w',w' = (w.setCell ⟨b,k,none⟩ (.pointer q)).setCell ⟨b,k + 1,none⟩ (.int .i64 n) → wpList Tryz.prog ops Q rest (a.put op.dst undef) w'):wpList Tryz.prog ops Q (op :: rest) a w:=by
 refine wpList_store_mid hgd _ x y ho b k _ hx hy (fun j hj => ?_) infoL2 (all_oneCell_toArray (cs:=[.pointer q,.int .i64 n]) (by intro v hv;simp only [List.mem_cons,List.not_mem_nil,or_false] at hv;rcases hv with rfl | rfl <;> rfl)) (h _ rfl);match j,hj with
 | 0,_ => exact ⟨by rw [show k + 0 = k from rfl,h0];rfl,z0⟩
 | 1,_ => exact ⟨by rw [h1];rfl,z1⟩
 | j + 2,hj => simp at hj;omega
theorem show_any (t:Lh) (p:Option Addr) (w:World) (h:LAt w t p) (hf:sfits t.all) (hs:t.size < 16777216):Calls Tryz.prog 180 #[hp p] w fun e w' => e = .returned (.string ⟨t.show.toArray⟩) ∧ Below w.heap.size w w':=by
 cases t with
 | nil =>
  obtain rfl:=h;go_enter Tryz.func180,Tryz.ntmps180
  go_wp2
  go_ret
  exact ⟨rfl,bqA _⟩
 | node x ks =>
  obtain ⟨x1,x2⟩:=x;obtain ⟨b,kp,rfl,hbh,hk⟩:=h;obtain ⟨n,hn⟩:=exq (ks.len);rw [← hn] at hbh;have hlen:=Lh.show_length (.node (x1,x2) ks) hf.wide;have hsz:1 + ks.size < 16777216:=hs;have hf1:sm x1 ∧ sm x2:=(show sfits ((x1,x2) :: ks.all) from hf).cons.1;have hf2:sfits ks.all:=(show sfits ((x1,x2) :: ks.all) from hf).cons.2;have hxl:=textS_length x1 x2 hf1.1 hf1.2;have hb1:Below w.heap.size w ((w.alloc (.cells #[.pointer (some ⟨b,0,none⟩)] 137)).alloc (.cells #[.pointer none,.slice none 0 0] 322)):=(bqA _).alloc (by simp) _;have hB1:=newBuilder (w.alloc (.cells #[.pointer (some ⟨b,0,none⟩)] 137));simp only [World.size_alloc] at hB1;have hv1:HVar ((w.alloc (.cells #[.pointer (some ⟨b,0,none⟩)] 137)).alloc (.cells #[.pointer none,.slice none 0 0] 322)) w.heap.size (some ⟨b,0,none⟩):=HVar.alloc (HVar.at rfl) _;have HT:=hdz (show sfits ks.all ∧ (sm x1 ∧ sm x2) ∧ 1 + ks.size < 16777216 ∧ (Lh.node (x1,x2) ks).show.length ≤ 46 * (1 + ks.size) + 1 ∧ (textOf x1 x2).length ≤ 43 ∧ n = ks.len from ⟨hf2,hf1,hsz,hlen,hxl,hn⟩);have H1:=hdz (anz hb1 (anz hB1 (anz hv1 (anz (show Kp w _ from Kpt.below hb1) (anz hbh hk)))));have c0:=(five_kp hbh (Kpt.below hb1)).c0;have c1:=(five_kp hbh (Kpt.below hb1)).c1;have n1:¬ 9223372036854775807 < 1 + (textOf x1 x2).length:=by omega
  clear hlen hsz hf1 hf2 hxl hn hf hs hb1 hB1 hv1 hbh hk;go_enter Tryz.func180,Tryz.ntmps180
  go_wp2_with fail
  clear c0 c1;generalize (w.alloc (.cells #[.pointer (some ⟨b,0,none⟩)] 137)).alloc (.cells #[.pointer none,.slice none 0 0] 322) = w1 at *;((with_reducible refine (textS_any (x1,x2) HT.out.2.1 _).mono ?_);rintro r w2 ⟨rfl,hb2⟩);have H2:=hdz (anz (H1.out.1.trans (hb2.mono H1.out.1.size)) (anz (H1.out.2.1.stay hb2) (anz (H1.out.2.2.1.stay hb2) (anz (H1.out.2.2.2.1.trans (Kpt.below hb2)) H1.out.2.2.2.2))));clear hb2 H1;obtain ⟨a,ha⟩:=exq (w.heap.size);obtain ⟨g,hg⟩:=exq (w.heap.size + 1);rw [← hg,← ha] at H2;rw [← hg,← ha];have HG:=hdz (anz ha hg);clear ha hg;go_wp2_with fail
  ((with_reducible refine (writeB g g [] (40 :: textOf x1 x2) _ _ (one_bytes _ _) H2.out.2.1 (by have:=HT.out;simp only [List.length_cons,List.length_nil];omega) (by obtain ⟨-,cs,h9⟩:=H2.out.2.1.block;exact Nat.le_of_lt (lt_of_heap h9))).mono ?_);rintro r w3 ⟨v3,rfl,hB3,hw3⟩);have hk3:=hw3.kp H2.out.2.1;have hv3:HVar w3 a (some ⟨b,0,none⟩):=hw3.heap H2.out.2.2.1 (by have:=HG.out;omega) (by decide)
  have hbe3:Below w.heap.size w w3:=by
   have h9:=H2.out.1.trans (hw3.below.mono (by have:=HG.out;omega));rw [HG.out.1] at h9;exact h9
  have hf3:=five_kp H2.out.2.2.2.2.1 (H2.out.2.2.2.1.trans hk3);have d0:=hv3.c0;have d2:=hf3.c2;have d3:=hf3.c3;have hgs3:g ≤ w3.heap.size:=by obtain ⟨-,cs,h9⟩:=hB3.block;exact Nat.le_of_lt (lt_of_heap h9)
  have hz3:=(Below.refl w3.heap.size w3).alloc (Nat.le_refl _) (.cells #[.pointer kp,.int .i64 (n:Int)] 225)
  have S0:=hdz (show Sh w g (.node (x1,x2) ks) [ks] [(kp,n)] (40 :: textOf x1 x2) (.slice (some ⟨w3.heap.size,0,none⟩) 1 1) (w3.alloc (.cells #[.pointer kp,.int .i64 (n:Int)] 225)) from
   ⟨(OwnQ.one w3 kp n).lower hgs3,⟨(kp,n),[],rfl,((H2.out.2.2.2.2.2.kp (H2.out.2.2.2.1.trans hk3)).stay hz3),HT.out.2.2.2.2.2,HT.out.1,rfl⟩,by simp [waitText,Lh.show],hB3.stay hz3,hbe3.trans (hz3.mono hbe3.size),Nat.le_trans hgs3 hz3.size,by have:=HG.out;omega⟩)
  clear hB3 hw3 hk3 hv3 hbe3 hf3 hgs3 hz3 H2;go_wp2_with fail
  clear d0 d2 d3;generalize w3.alloc (.cells #[.pointer kp,.int .i64 (n:Int)] 225) = w4 at *;generalize w3.heap.size = b4 at *;go_loopg [4] (waitN [ks]) (fun k v wr => ∃ (ts:List Kd) (qs:List (Option Addr × Nat)) (pre:List UInt8),k = waitN ts ∧ waitN ts ≤ waitN [ks] ∧ Sh w g (.node (x1,x2) ks) ts qs pre v wr)
  case atStart => exact ⟨[ks],[(kp,n)],40 :: textOf x1 x2,rfl,Nat.le_refl _,S0.out⟩
  case round =>
   clear S0;obtain ⟨ts,qs,pre,hkk,hle,hsh⟩:=hrel;have hql:=hsh.wa.length;have S:=hdz hsh;have Q:=hdz (show gk = waitN ts ∧ waitN ts ≤ 2 * ks.size + 1 ∧ qs.length = ts.length ∧ pre.length ≤ (Lh.node (x1,x2) ks).show.length from ⟨hkk,by simpa [waitN] using hle,hql,by rw [← hsh.tx,List.length_append];omega⟩);clear hkk hle hql hsh
   cases qs with
   | nil =>
    have hv:=S.out.own;rw [List.reverse_nil] at hv;obtain ⟨A,cp,hvv⟩:=hv.empty;rw [List.length_nil] at hvv;subst hvv;have ht:ts = []:=List.eq_nil_of_length_eq_zero (by have:=Q.out.2.2.1;simpa using this.symm);subst ht;clear hv;go_wp2_with fail
    ((with_reducible refine (string_any g g pre _ S.out.bl S.out.gs).mono ?_);rintro e w5 ⟨rfl,hb5⟩);have B5:=hdz (S.out.be.trans (hb5.mono S.out.gw));have tx:=S.out.tx;simp only [waitText,List.append_nil] at tx;have TX:=hdz tx;clear hb5 tx;go_wp2_with fail
    go_ret
    exact ⟨by rw [← TX.out];rfl,B5.out⟩
   | cons q qs =>
    obtain ⟨q1,q2⟩:=q
    cases ts with
    | nil => exact absurd Q.out.2.2.1 (by simp)
    | cons k ts =>
    have hown:=S.out.own;rw [List.reverse_cons] at hown;obtain ⟨bo,cap,rfl,hc1,hc2,hx0,hx1,hq'⟩:=hown.last;obtain ⟨q,qs',eq,hka,hkl,hkf,hwr⟩:=S.out.wa
    cases eq
    have hn1:qs.reverse.length = qs.length:=List.length_reverse;rw [hn1] at hc1 hx0 hx1 hq' ⊢;have hwl:=wait_len (k :: ts);obtain ⟨L,hL⟩:=exq (qs.length + 1);obtain ⟨m,hm⟩:=exq (qs.length);rw [← hm] at hx0 hx1 hq';rw [← hL] at hc1;rw [← hL];have hml:m < 33554433:=by have h5:=Q.out.2.1;have h6:=Q.out.2.2.1;have h7:=HT.out.2.2.1;simp only [List.length_cons] at h6 hwl;omega
    simp only at hx0 hx1 hka hkl;have g1:decide ((0:Int) < (L:Int)) = true:=by simp;omega
    have g2:(0:Int) < (L:Int):=by omega
    have g3:0 < L:=by omega
    have g4:IntKind.i64.wrap ((L:Int) - 1) = (m:Int):=by rw [IntKind.wrap_i64];omega
    have g5:(0:Int) ≤ (m:Int):=by omega
    have g6:(m:Int) < (L:Int):=by omega
    have g7:m < L:=by omega
    have g8:m ≤ cap:=by omega
    have hvL:OwnQ wr g (.slice (some ⟨bo,0,none⟩) L cap) (qs.reverse ++ [(q1,q2)]):=by rw [hL,← hn1];exact hown
    have X:=hdz (anz hvL (anz hq' (anz hka (anz hkl (anz hkf (anz hwr (anz hL (anz hm hml))))))));clear hown hc1 hc2 hka hkl hkf hwr hn1 hwl hL hm hml hvL hq'
    cases k with
    | nil =>
     obtain rfl:q1 = none:=X.out.2.2.1;go_wp2_with fail
     ((with_reducible refine (Lt.first_nil _ _).mono ?_);rintro e w5 ⟨rfl,hb5⟩);have hz5:=(Below.refl w5.heap.size w5).alloc (Nat.le_refl _) (.cells #[.pointer none] 137);have S5:=hdz ((S.out.stay hb5).stay hz5);have O5:=hdz ((X.out.2.1.below hb5).below hz5);clear hb5 hz5 hx0 hx1;go_wp2_with fail
     generalize w5.alloc (.cells #[.pointer none] 137) = w6 at *;((with_reducible refine (write_any g g pre [41] _ S5.out.bl (by have:=Q.out;have:=HT.out;simp only [List.length_cons,List.length_nil];omega) S5.out.gs).mono ?_);rintro e w7 ⟨v7,rfl,hB7,hw7⟩);have hk7:=hw7.kp S5.out.bl
     have S7:=hdz (show Sh w g (.node (x1,x2) ks) ts qs (pre ++ [41]) (.slice (some ⟨bo,0,none⟩) m cap) w7 from
      ⟨O5.out.wrote S5.out.bl hw7,by obtain ⟨_,_,eq, -, -, -,h5⟩:=S5.out.wa;cases eq;exact h5.kp hk7,by have h5:=S5.out.tx;simpa [waitText,Kd.show] using h5,hB7,S5.out.be.trans (hw7.below.mono S5.out.gw),by obtain ⟨-,cs,h9⟩:=hB7.block;exact Nat.le_of_lt (lt_of_heap h9),S5.out.gw⟩)
     clear hB7 hw7 hk7 S5 O5;go_wp2_with fail
     go_roundg (waitN ts)
     case measure => have h5:=Q.out.1;simp only [waitN] at h5;omega
     case rel => exact ⟨ts,qs,pre ++ [41],rfl,by have h5:=Q.out.2.1;simp only [waitN,Kd.size] at h5 ⊢;omega,S7.out⟩
    | cons y ls r =>
     obtain ⟨y1,y2⟩:=y;go_wp2_with fail
     ((with_reducible refine (first_c X.out.2.2.1).mono ?_);rintro e w5 ⟨nb,lp,rfl,hnb,hlk,hb5⟩);obtain ⟨ln,hln⟩:=exq (ls.len);rw [← hln] at hnb;have hz5:=(Below.refl w5.heap.size w5).alloc (Nat.le_refl _) (.cells #[.pointer (some ⟨nb,0,none⟩)] 137);have S5:=hdz ((S.out.stay hb5).stay hz5);have O5:=hdz ((X.out.1.below hb5).below hz5);have V5:=hdz (HVar.at (W:=w5) (p:=some ⟨nb,0,none⟩) rfl);have N5:=hdz (anz (show (w5.alloc (.cells #[.pointer (some ⟨nb,0,none⟩)] 137)).heap[nb]? = some (nodeObj (y1,y2) lp ln (1 + ls.size)) from (hz5.block _ (lt_of_heap hnb)).trans hnb) (hlk.stay hz5));have HLN:=hdz hln;have f5:=five N5.out.1;have c0:=f5.c0;have c1:=f5.c1;have hkf:=(show sfits (((y1,y2) :: ls.all) ++ r.all) from X.out.2.2.2.2.1).append;have hyl:=textS_length y1 y2 hkf.1.cons.1.1 hkf.1.cons.1.2;have HF:=hdz (show (sm y1 ∧ sm y2) ∧ sfits ls.all ∧ sfits r.all ∧ (textOf y1 y2).length ≤ 43 from ⟨hkf.1.cons.1,hkf.1.cons.2,hkf.2,hyl⟩);have n2:¬ 9223372036854775807 < 1 + 1 + (textOf y1 y2).length:=by omega
     have n3:¬ 9223372036854775807 < 2 + (textOf y1 y2).length:=by omega
     clear hb5 hz5 hnb hlk hln hx0 hx1 f5 hkf hyl;go_wp2_with fail
     clear c0 c1;generalize w5.alloc (.cells #[.pointer (some ⟨nb,0,none⟩)] 137) = w6 at *;obtain ⟨bk,hbk⟩:=exq (w5.heap.size);rw [← hbk] at V5 ⊢;clear hbk;((with_reducible refine (textS_any (y1,y2) HF.out.1 _).mono ?_);rintro e w7 ⟨rfl,hb7⟩);have S7:=hdz (S5.out.stay hb7);have O7:=hdz (O5.out.below hb7);have V7:=hdz (V5.out.stay hb7);have N7:=hdz (anz ((hb7.block _ (lt_of_heap N5.out.1)).trans N5.out.1) (N5.out.2.stay hb7));clear hb7 S5 O5 V5 N5;go_wp2_with fail
     ((with_reducible refine (writeB g g pre (32 :: 40 :: textOf y1 y2) _ _ (two_bytes _ _ _) S7.out.bl (by have:=Q.out;have:=HT.out;have:=HF.out;simp only [List.length_cons];omega) S7.out.gs).mono ?_);rintro e w8 ⟨v8,rfl,hB8,hw8⟩);have hk8:=hw8.kp S7.out.bl;have hgn:∃ cs,w7.heap[g]? = some (.cells cs 322 (0,0)):=S7.out.bl.block.2;have V8:HVar w8 bk (some ⟨nb,0,none⟩):=hw8.heap V7.out (by rintro rfl;obtain ⟨cs,h9⟩:=hgn;rw [show w7.heap[bk]? = _ from V7.out] at h9;cases h9) (by decide);have O8:=O7.out.wrote S7.out.bl hw8;obtain ⟨bo',cap',eo,hd1,hd2,hx0,hx1, -⟩:=O8.last;have eo':bo' = bo:=by cases eo;rfl
     subst eo';rw [List.length_reverse,← X.out.2.2.2.2.2.2.2.1] at hx0 hx1;simp only at hx0 hx1;have hwa8:WaitAt w8 (.cons (y1,y2) ls r :: ts) ((q1,q2) :: qs):=S7.out.wa.kp hk8
     have hka8:KAt w8 (.cons (y1,y2) ls r) q1 ∧ WaitAt w8 ts qs:=by
      obtain ⟨_,_,eq,h5, -, -,h6⟩:=hwa8
      cases eq
      exact ⟨h5,h6⟩
     have Z:=hdz hka8;clear hka8;have Y:=hdz (anz hB8 (anz V8 (anz O8 (anz hwa8 (anz (hk8 _ _ _ (.inl rfl) N7.out.1) (anz (N7.out.2.kp hk8) (anz (S7.out.be.trans (hw8.below.mono S7.out.gw)) (anz S7.out.tx S7.out.gw))))))));clear hB8 hw8 hk8 hgn V8 O8 hwa8 hd1 hd2 eo S7 O7 V7 N7;go_wp2_with fail
     ((with_reducible refine (rest_kn (ks := .cons (y1,y2) ls r) Z.out.1 X.out.2.2.2.1 (by have h5:=X.out.2.2.2.1;have h6:=(Kd.cons (y1,y2) ls r).len_le;have h7:=Q.out.2.1;simp only [waitN] at h7;have:=HT.out.2.2.1;omega)).mono ?_);rintro e w9 ⟨q',n',rfl,hk9,hn9,hb9⟩);have V9:=Y.out.2.1.stay hb9;have O9:=Y.out.2.2.1.below hb9;obtain ⟨cso,hbo⟩:∃ cs,w9.heap[bo']? = some (.cells cs 225 (0,0)):=(O9.kind bo' rfl).2.2;have hkS:Kp w9 ((w9.setCell ⟨bo',m * 2,none⟩ (.pointer q')).setCell ⟨bo',m * 2 + 1,none⟩ (.int .i64 (n':Int))):=(Kpt.set hbo listT_ne _ _).trans (Kpt.set (heap_put (j:=m * 2) hbo _) listT_ne _ _);have O10:=O9.turn q' n' m (by rw [List.length_reverse];exact X.out.2.2.2.2.2.2.2.1);have hne:bk ≠ bo':=by rintro rfl;rw [show w9.heap[bk]? = _ from V9] at hbo;cases hbo
     have V10:HVar ((w9.setCell ⟨bo',m * 2,none⟩ (.pointer q')).setCell ⟨bo',m * 2 + 1,none⟩ (.int .i64 (n':Int))) bk (some ⟨nb,0,none⟩):=(heap_other _ _ hne).trans ((heap_other _ _ hne).trans V9)
     have B10:Bld g g (pre ++ 32 :: 40 :: textOf y1 y2) ((w9.setCell ⟨bo',m * 2,none⟩ (.pointer q')).setCell ⟨bo',m * 2 + 1,none⟩ (.int .i64 (n':Int))) :=
      ((Y.out.1.stay hb9).grown (grown_set _ bo' (m * 2) _) (fun k ek => by cases ek;exact ⟨cso,_,_,hbo,by decide,by decide⟩)).grown (grown_set _ bo' (m * 2 + 1) _) (fun k ek => by cases ek;exact ⟨_,_,_,heap_put (j:=m * 2) hbo _,by decide,by decide⟩)
     have hgo:g ≤ bo':=(O9.kind bo' rfl).1;have hbe9:Below w.heap.size w w9:=Y.out.2.2.2.2.2.2.1.trans (hb9.mono Y.out.2.2.2.2.2.2.1.size);have hbe10:Below w.heap.size w ((w9.setCell ⟨bo',m * 2,none⟩ (.pointer q')).setCell ⟨bo',m * 2 + 1,none⟩ (.int .i64 (n':Int))):=(hbe9.setCell (p:=⟨bo',m * 2,none⟩) (Nat.le_trans Y.out.2.2.2.2.2.2.2.2 hgo) _).setCell (p:=⟨bo',m * 2 + 1,none⟩) (Nat.le_trans Y.out.2.2.2.2.2.2.2.2 hgo) _;have hgs10:g ≤ ((w9.setCell ⟨bo',m * 2,none⟩ (.pointer q')).setCell ⟨bo',m * 2 + 1,none⟩ (.int .i64 (n':Int))).heap.size:=by obtain ⟨-,cs,h9⟩:=B10.block;exact Nat.le_of_lt (lt_of_heap h9)
     have N10:((w9.setCell ⟨bo',m * 2,none⟩ (.pointer q')).setCell ⟨bo',m * 2 + 1,none⟩ (.int .i64 (n':Int))).heap[nb]? = some (nodeObj (y1,y2) lp ln (1 + ls.size)):=hkS _ _ _ (.inl rfl) ((hb9.block _ (lt_of_heap Y.out.2.2.2.2.1)).trans Y.out.2.2.2.2.1);have K10:=(Y.out.2.2.2.2.2.1.stay hb9).kp hkS;have R10:=hk9.kp hkS;have W10:WaitAt _ ts qs:=Z.out.2.kp ((Kpt.below hb9).trans hkS);obtain ⟨v11,w11,hrun,hown11,hg11⟩:=append_listQ ((w9.setCell ⟨bo',m * 2,none⟩ (.pointer q')).setCell ⟨bo',m * 2 + 1,none⟩ (.int .i64 (n':Int))) g _ (qs.reverse ++ [(q',n')]) lp ln O10 (by have h5:=X.out.2.2.2.2.2.2.2;simp only [List.length_append,List.length_reverse,List.length_cons,List.length_nil];omega) hgs10;have e0:w9.cell? ⟨bo',m * 2,none⟩ = some (.pointer q1):=(hb9.cell (p:=⟨bo',m * 2,none⟩) (block_lt_of_cell hx0)).trans hx0;have e1:w9.cell? ⟨bo',m * 2 + 1,none⟩ = some (.int .i64 (q2:Int)):=(hb9.cell (p:=⟨bo',m * 2 + 1,none⟩) (block_lt_of_cell hx1)).trans hx1;have e2:w9.frozen? ⟨bo',m * 2,none⟩ = false:=by simp [World.frozen?,hbo]
     have e3:w9.frozen? ⟨bo',m * 2 + 1,none⟩ = false:=by simp [World.frozen?,hbo]
     have e4:=V10.c0;have e5:=(five N10).c2;have e6:=(five N10).c3;have hza:=(Below.refl ((w9.setCell ⟨bo',m * 2,none⟩ (.pointer q')).setCell ⟨bo',m * 2 + 1,none⟩ (.int .i64 (n':Int))).heap.size ((w9.setCell ⟨bo',m * 2,none⟩ (.pointer q')).setCell ⟨bo',m * 2 + 1,none⟩ (.int .i64 (n':Int)))).alloc (Nat.le_refl _) (.cells #[.pointer lp,.int .i64 (ln:Int)] 225);have hbo10:∃ cs,((w9.setCell ⟨bo',m * 2,none⟩ (.pointer q')).setCell ⟨bo',m * 2 + 1,none⟩ (.int .i64 (n':Int))).heap[bo']? = some (.cells cs 225 (0,0)):=⟨_,heap_put (j:=m * 2 + 1) (heap_put (j:=m * 2) hbo _) _⟩
     have hk11:Kp ((w9.setCell ⟨bo',m * 2,none⟩ (.pointer q')).setCell ⟨bo',m * 2 + 1,none⟩ (.int .i64 (n':Int))) w11:=(Kpt.below hza).trans (Kpt.grown hg11 (fun k ek cs ty hk hn => by
      cases ek
      obtain ⟨cs2,h9⟩:=hbo10;rw [hza.block _ (lt_of_heap h9),h9] at hk
      cases hk
      exact listT_ne hn))
     have S11:=hdz (show Sh w g (.node (x1,x2) ks) (ls :: r :: ts) ((lp,ln) :: (q',n') :: qs) (pre ++ 32 :: 40 :: textOf y1 y2) v11 w11 from
      ⟨by rw [List.reverse_cons,List.reverse_cons];exact hown11,
       ⟨(lp,ln),_,rfl,K10.kp hk11,HLN.out,HF.out.2.1,(q',n'),qs,rfl,R10.kp hk11,hn9,HF.out.2.2.1,W10.kp hk11⟩,
       by have h5:=Y.out.2.2.2.2.2.2.2.1;rw [wait_cons] at h5;simpa using h5,
       (B10.stay hza).grown hg11 (fun k ek => by cases ek;obtain ⟨cs2,h9⟩:=hbo10;exact ⟨cs2,_,_,(hza.block _ (lt_of_heap h9)).trans h9,by decide,by decide⟩),
       below_grown (hbe10.trans (hza.mono hbe10.size)) hg11 (Nat.le_trans hbe10.size hza.size) (fun k ek => by cases ek;exact Nat.le_trans Y.out.2.2.2.2.2.2.2.2 hgo),
       Nat.le_trans hgs10 (Nat.le_trans hza.size hg11.size),Y.out.2.2.2.2.2.2.2.2⟩)
     clear V9 O9 hkS O10 hne V10 B10 hgo hbe9 hbe10 hgs10 N10 K10 R10 W10 hown11 hg11 hza hbo10 hk11 hbo hk9 hn9 hb9 hx0 hx1;generalize hw10:(w9.setCell ⟨bo',m * 2,none⟩ (.pointer q')).setCell ⟨bo',m * 2 + 1,none⟩ (.int .i64 (n':Int)) = w10 at *;have HW:=hdz hw10;have HR:=hdz hrun;clear hw10 hrun
     go_wp2_with (first
      | (refine wpList_store_lst rfl _ _ rfl bo' (m * 2) rfl rfl e0 e1 e2 e3 ?_;rw [HW.out];intro w10b hw10b;rw [hw10b];clear hw10b w10b)
      | (at_builtin;refine wpList_append_run rfl _ _ _ rfl _ _ _ _ rfl rfl HR.out ?_))
     go_roundg (waitN (ls :: r :: ts))
     case measure => have h5:=Q.out.1;simp only [waitN,Kd.size] at h5 ⊢;omega
     case rel => exact ⟨_,_,_,rfl,by have h5:=Q.out.2.1;simp only [waitN,Kd.size] at h5 ⊢;omega,S11.out⟩
end Go.Proofs.YtbpbadolgmbhnaaGreat.Pd
