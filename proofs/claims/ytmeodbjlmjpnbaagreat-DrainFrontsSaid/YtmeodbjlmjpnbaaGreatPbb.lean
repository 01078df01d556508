/- internal/strconv.formatBase10 for any number and any number of digits asked: the row that it leaves, as a function. -/
import Derived.Test.YtmeodbjlmjpnbaaGreatProg
import Derived.WalkKit
import Derived.Shelf.Strconv.Itoa1
import Derived.Lib.ItoaWalk
import Derived.Lib.ItoaMem
import Derived.Lib.Walk
import Derived.RegionTactic
import Derived.BigCall
import Derived.BigGuard
import Derived.CellFam
import Derived.Test.YtmeodbjlmjpnbaaGreatShelf
import Derived.Test.YtmeodbjlmjpnbaaGreatPa
import Derived.BigQuiet
import Derived.Lib.QuietBelow
import Derived.Lib.ItoaLen
import Derived.Shelf.Strings.Builder1
import Derived.Shelf.Strings.BuilderK
import Derived.HandedShaped
set_option maxRecDepth 100000
set_option maxHeartbeats 12800000
namespace Go.Proofs.YtmeodbjlmjpnbaaGreat
open Go.Sort Go.RowKit Go.Lib
abbrev vO (b:UInt8):Value := .int .u8 (b.toNat:Int)
def uT (m k:Nat)(r:Array UInt8):Array UInt8:=(r.setIfInBounds (m+1) (sm (k % 100*2+1))).setIfInBounds m (sm (k % 100*2))
def sJ:Nat→Nat→Array UInt8→Array UInt8
 | 0,_,r=>r
 | 1,v,r=>r.setIfInBounds 0 (UInt8.ofNat (48+v))
 | n+2,v,r=>sJ n (v / 100) (uT n v r)
def fmt:Nat→Nat→Array UInt8→Array UInt8
 | n+8,v,r=>fmt n (v / 100000000) (uT n (v / 1000000) (uT (n+2) (v / 10000) (uT (n+4) (v / 100) (uT (n+6) v r))))
 | n,v,r=>sJ n (v % 4294967296) r
theorem lT (m k:Nat)(r:Array UInt8):(uT m k r).size=r.size:=by simp [uT]
theorem Ef (v:Nat)(r:Array UInt8):∀k,k<8→fmt k v r=sJ k (v % 4294967296) r
 | 0,_=>by simp only [fmt]
 | 1,_=>by simp only [fmt]
 | 2,_=>by simp only [fmt]
 | 3,_=>by simp only [fmt]
 | 4,_=>by simp only [fmt]
 | 5,_=>by simp only [fmt]
 | 6,_=>by simp only [fmt]
 | 7,_=>by simp only [fmt]
theorem Gq (n v:Nat)(r:Array UInt8):fmt (n+8) v r=fmt n (v / 100000000) (uT n (v / 1000000) (uT (n+2) (v / 10000) (uT (n+4) (v / 100) (uT (n+6) v r)))):=by simp only [fmt]
structure qU (w:World)(blk off z:Nat)(r:Array UInt8)(W:World):Prop where
 size:r.size=z
 eq:∃n,W=(putRow vO w blk off r).drewN n
section
variable {w W W':World}{blk off:Nat}{d r:Array UInt8}
theorem qU.cells (h:qU w blk off d.size r W)(hH:Holds vO w blk off d):∃G:Nat→Int,∀t,t<d.size→W.cell? ⟨blk,off+t,none⟩=some (.int .u8 (G t)):=by
 obtain ⟨hs,n,rfl⟩:=h;exact ⟨fun t=>(r[t]!.toNat:Int),fun t ht=>(holds_putRow vO w blk off d r hH hs t (by omega)).1⟩
theorem qU.free (h:qU w blk off d.size r W)(hH:Holds vO w blk off d):∀t,t<d.size→W.frozen? ⟨blk,off+t,none⟩=false:=by
 obtain ⟨hs,n,rfl⟩:=h;exact fun t ht=>(holds_putRow vO w blk off d r hH hs t (by omega)).2
theorem qU.two {z:Nat}(h:qU w blk off z r W)(m k:Nat)(hm:m+2≤z)(hW:W'=((W.setCell ⟨blk,off+(m+1),none⟩ (.int .u8 ((sm (k % 100*2+1)).toNat:Int))).setCell ⟨blk,off+m,none⟩ (.int .u8 ((sm (k % 100*2)).toNat:Int))).drew):qU w blk off z (uT m k r) W':=by
 obtain ⟨hs,n,rfl⟩:=h;exact ⟨(lT _ _ _).trans hs,n+1,hW.trans (store2_world w blk off r n (m+1) m _ _ (by omega) (by omega))⟩
theorem qU.one {z:Nat}(h:qU w blk off z r W)(c:Nat){y:Int}(hy:y=(((48+c) % 256:Nat):Int))(h0:0<z):qU w blk off z (r.setIfInBounds 0 (UInt8.ofNat (48+c))) (W.setCell ⟨blk,off,none⟩ (.int .u8 y)):=by
 obtain ⟨hs,n,rfl⟩:=h;exact ⟨by simpa using hs,n,store1_world0 w blk off r n y c hy (by omega)⟩
theorem qU.three {z:Nat}(h:qU w blk off z r W)(m k c:Nat){y:Int}(hy:y=(((48+c) % 256:Nat):Int))(hm:m+2≤z):qU w blk off z ((uT m k r).setIfInBounds 0 (UInt8.ofNat (48+c))) (((W.setCell ⟨blk,off+(m+1),none⟩ (.int .u8 ((sm (k % 100*2+1)).toNat:Int))).setCell ⟨blk,off+m,none⟩ (.int .u8 ((sm (k % 100*2)).toNat:Int))).setCell ⟨blk,off,none⟩ (.int .u8 y)).drew:=by
 obtain ⟨hs,n,rfl⟩:=h;exact ⟨by simpa [lT] using hs,n+1,store21_world w blk off r n (m+1) m _ _ y c hy (by omega) (by omega)⟩
end
theorem yE (blk off cap u:Nat)(d:Array UInt8)(w:World)(hH:Holds vO w blk off d)(hu:u<18446744073709551616)(hz:d.size<4611686018427387904) :
  Calls Tryz.prog 254 #[.slice (some ⟨blk,off,none⟩) d.size cap,.int .u64 u] w fun e w'=>e=.returned (.tuple #[])∧qU w blk off d.size (fmt d.size u d) w':=by
 go_enter Tryz.func254,Tryz.ntmps254
 go_name_bytes SM hSM
 have eSM:SM=Lib.smalls:=by rw [←hSM];decide +kernel
 subst eSM;clear hSM;go_wp2
 go_loopw [1,4] (fun vu vn wr => ∃(nd v:Nat) (dk:Array UInt8),vu=.int .u64 v∧vn=.int .i64 nd∧v<18446744073709551616∧nd≤d.size∧qU w blk off d.size dk wr∧fmt nd v dk=fmt d.size u d) (fun _ vn _=>(RowKit.intOf vn).toNat)
 case atStart=>exact ⟨d.size,u,d,rfl,rfl,hu,Nat.le_refl _,⟨rfl,0,(putRow_self _ _ _ _ _ hH).symm⟩,rfl⟩
 case round =>
  obtain ⟨nd,v,dk0,rfl,rfl,hv,hnd,hS0,hfm⟩:=hrel;rename World=>W0
  have HH:=hdz hH;have S0:=hdz hS0;have FM:=hdz hfm;clear hH hS0 hfm hu;obtain ⟨G0,hc0⟩:=S0.out.cells HH.out;have hf0:=S0.out.free HH.out;by_cases h8:8≤nd
  ·obtain ⟨m,rfl⟩:∃m,nd=m+8:=⟨nd - 8,by omega⟩;go_wp2
   go_name_slot 9 x0 hx0
   have hxe0:x0=((v % 100*2:Nat):Int):=by omega
   have hXa0:∀w,(Instr.index 9 (.string Lib.smalls) (.int .u32 (x0+1))).run Tryz.prog w=.ok (.int .u8 ((sm (v % 100*2+1)).toNat:Int)) w:=idx_smalls 9 Tryz.underlying9 .u32 _ _ (by omega) (by omega);have hXb0:∀w,(Instr.index 9 (.string Lib.smalls) (.int .u32 x0)).run Tryz.prog w=.ok (.int .u8 ((sm (v % 100*2)).toNat:Int)) w:=idx_smalls 9 Tryz.underlying9 .u32 _ _ (by omega) (by omega);have hlo0:0≤x0:=by omega
   have hhi0:x0≤198:=by omega
   clear hx0 hxe0;go_region
   go_wp2
   go_name_world W1 hW1
   have S1:=hdz (S0.out.two (m+6) (v) (by have:=S0.out.1;omega) hW1.symm);clear hW1 hc0 hf0 S0 hXa0 hXb0 hlo0 hhi0;obtain ⟨G1,hc1⟩:=S1.out.cells HH.out;have hf1:=S1.out.free HH.out;go_name_slot 8 x1 hx1
   have hxe1:x1=(((v / 100) % 100*2:Nat):Int):=by omega
   have hXa1:∀w,(Instr.index 9 (.string Lib.smalls) (.int .u32 (x1+1))).run Tryz.prog w=.ok (.int .u8 ((sm ((v / 100) % 100*2+1)).toNat:Int)) w:=idx_smalls 9 Tryz.underlying9 .u32 _ _ (by omega) (by omega);have hXb1:∀w,(Instr.index 9 (.string Lib.smalls) (.int .u32 x1)).run Tryz.prog w=.ok (.int .u8 ((sm ((v / 100) % 100*2)).toNat:Int)) w:=idx_smalls 9 Tryz.underlying9 .u32 _ _ (by omega) (by omega);have hlo1:0≤x1:=by omega
   have hhi1:x1≤198:=by omega
   clear hx1 hxe1;go_region
   go_wp2
   go_name_world W2 hW2
   have S2:=hdz (S1.out.two (m+4) (v / 100) (by have:=S1.out.1;omega) hW2.symm);clear hW2 hc1 hf1 S1 hXa1 hXb1 hlo1 hhi1;obtain ⟨G2,hc2⟩:=S2.out.cells HH.out;have hf2:=S2.out.free HH.out;go_name_slot 11 x2 hx2
   have hxe2:x2=(((v / 10000) % 100*2:Nat):Int):=by omega
   have hXa2:∀w,(Instr.index 9 (.string Lib.smalls) (.int .u32 (x2+1))).run Tryz.prog w=.ok (.int .u8 ((sm ((v / 10000) % 100*2+1)).toNat:Int)) w:=idx_smalls 9 Tryz.underlying9 .u32 _ _ (by omega) (by omega);have hXb2:∀w,(Instr.index 9 (.string Lib.smalls) (.int .u32 x2)).run Tryz.prog w=.ok (.int .u8 ((sm ((v / 10000) % 100*2)).toNat:Int)) w:=idx_smalls 9 Tryz.underlying9 .u32 _ _ (by omega) (by omega);have hlo2:0≤x2:=by omega
   have hhi2:x2≤198:=by omega
   clear hx2 hxe2;go_region
   go_wp2
   go_name_world W3 hW3
   have S3:=hdz (S2.out.two (m+2) (v / 10000) (by have:=S2.out.1;omega) hW3.symm);clear hW3 hc2 hf2 S2 hXa2 hXb2 hlo2 hhi2;obtain ⟨G3,hc3⟩:=S3.out.cells HH.out;have hf3:=S3.out.free HH.out;go_name_slot 10 x3 hx3
   have hxe3:x3=(((v / 1000000) % 100*2:Nat):Int):=by omega
   have hXa3:∀w,(Instr.index 9 (.string Lib.smalls) (.int .u32 (x3+1))).run Tryz.prog w=.ok (.int .u8 ((sm ((v / 1000000) % 100*2+1)).toNat:Int)) w:=idx_smalls 9 Tryz.underlying9 .u32 _ _ (by omega) (by omega);have hXb3:∀w,(Instr.index 9 (.string Lib.smalls) (.int .u32 x3)).run Tryz.prog w=.ok (.int .u8 ((sm ((v / 1000000) % 100*2)).toNat:Int)) w:=idx_smalls 9 Tryz.underlying9 .u32 _ _ (by omega) (by omega);have hlo3:0≤x3:=by omega
   have hhi3:x3≤198:=by omega
   clear hx3 hxe3;go_region
   go_wp2
   go_roundw
   case rel=>exact ⟨m,v / 100000000,_,by first|go_num|(congr 1;omega),by first|go_num|(congr 1;omega),by omega,by omega,S3.out.two m (v / 1000000) (by omega) rfl,(Gq _ _ _).symm.trans FM.out⟩
   case measure=>simp [RowKit.intOf];omega
  ·have hwr:IntKind.u32.wrap (v:Int)=((v % 4294967296:Nat):Int):=by rw [IntKind.wrap_u32];omega
   obtain ⟨x,hx⟩:=aU (v % 4294967296);rw [←hx]at hwr;have hx4:x<4294967296:=by omega
   have hc8:nd=0∨nd=1∨nd=2∨nd=3∨nd=4∨nd=5∨nd=6∨nd=7:=by omega
   have FE:=hdz (show fmt nd v dk0=sJ nd x dk0 from by rw [hx];exact Ef v dk0 nd (by omega));clear hx;rcases hc8 with rfl|rfl|rfl|rfl|rfl|rfl|rfl|rfl
   ·go_wp2
    go_end0
    exact ⟨rfl,by rw [←FM.out,FE.out];simp only [sJ];exact S0.out⟩
   ·go_wp2
    go_end0
    exact ⟨rfl,by rw [←FM.out,FE.out];simp only [sJ];exact S0.out.one x (by first|omega|(simp only [IntKind.wrap_u8,IntKind.wrap_u32];omega)) (by omega)⟩
   ·go_wp2
    go_name_slot 16 x0 hx0
    have hxe0:x0=((x % 100*2:Nat):Int):=by omega
    have hXa0:∀w,(Instr.index 9 (.string Lib.smalls) (.int .u32 (x0+1))).run Tryz.prog w=.ok (.int .u8 ((sm (x % 100*2+1)).toNat:Int)) w:=idx_smalls 9 Tryz.underlying9 .u32 _ _ (by omega) (by omega);have hXb0:∀w,(Instr.index 9 (.string Lib.smalls) (.int .u32 x0)).run Tryz.prog w=.ok (.int .u8 ((sm (x % 100*2)).toNat:Int)) w:=idx_smalls 9 Tryz.underlying9 .u32 _ _ (by omega) (by omega);have hlo0:0≤x0:=by omega
    have hhi0:x0≤198:=by omega
    clear hx0 hxe0;go_region
    go_wp2
    go_end0
    exact ⟨rfl,by rw [←FM.out,FE.out];simp only [sJ];exact S0.out.two 0 (x) (by omega) rfl⟩
   ·go_wp2
    go_name_slot 16 x0 hx0
    have hxe0:x0=((x % 100*2:Nat):Int):=by omega
    have hXa0:∀w,(Instr.index 9 (.string Lib.smalls) (.int .u32 (x0+1))).run Tryz.prog w=.ok (.int .u8 ((sm (x % 100*2+1)).toNat:Int)) w:=idx_smalls 9 Tryz.underlying9 .u32 _ _ (by omega) (by omega);have hXb0:∀w,(Instr.index 9 (.string Lib.smalls) (.int .u32 x0)).run Tryz.prog w=.ok (.int .u8 ((sm (x % 100*2)).toNat:Int)) w:=idx_smalls 9 Tryz.underlying9 .u32 _ _ (by omega) (by omega);have hlo0:0≤x0:=by omega
    have hhi0:x0≤198:=by omega
    clear hx0 hxe0;go_region
    go_wp2
    go_end0
    exact ⟨rfl,by rw [←FM.out,FE.out];simp only [sJ];exact S0.out.three 1 (x) (x / 100) (by first|omega|(simp only [IntKind.wrap_u8,IntKind.wrap_u32];omega)) (by omega)⟩
   ·go_wp2
    go_name_slot 15 x0 hx0
    have hxe0:x0=((x % 100*2:Nat):Int):=by omega
    have hXa0:∀w,(Instr.index 9 (.string Lib.smalls) (.int .u32 (x0+1))).run Tryz.prog w=.ok (.int .u8 ((sm (x % 100*2+1)).toNat:Int)) w:=idx_smalls 9 Tryz.underlying9 .u32 _ _ (by omega) (by omega);have hXb0:∀w,(Instr.index 9 (.string Lib.smalls) (.int .u32 x0)).run Tryz.prog w=.ok (.int .u8 ((sm (x % 100*2)).toNat:Int)) w:=idx_smalls 9 Tryz.underlying9 .u32 _ _ (by omega) (by omega);have hlo0:0≤x0:=by omega
    have hhi0:x0≤198:=by omega
    clear hx0 hxe0;go_region
    go_wp2
    go_name_world W1 hW1
    have S1:=hdz (S0.out.two (2) (x) (by have:=S0.out.1;omega) hW1.symm);clear hW1 hc0 hf0 S0 hXa0 hXb0 hlo0 hhi0;obtain ⟨G1,hc1⟩:=S1.out.cells HH.out;have hf1:=S1.out.free HH.out;go_name_slot 14 x1 hx1
    have hxe1:x1=(((x / 100) % 100*2:Nat):Int):=by omega
    have hXa1:∀w,(Instr.index 9 (.string Lib.smalls) (.int .u32 (x1+1))).run Tryz.prog w=.ok (.int .u8 ((sm ((x / 100) % 100*2+1)).toNat:Int)) w:=idx_smalls 9 Tryz.underlying9 .u32 _ _ (by omega) (by omega);have hXb1:∀w,(Instr.index 9 (.string Lib.smalls) (.int .u32 x1)).run Tryz.prog w=.ok (.int .u8 ((sm ((x / 100) % 100*2)).toNat:Int)) w:=idx_smalls 9 Tryz.underlying9 .u32 _ _ (by omega) (by omega);have hlo1:0≤x1:=by omega
    have hhi1:x1≤198:=by omega
    clear hx1 hxe1;go_region
    go_wp2
    go_end0
    exact ⟨rfl,by rw [←FM.out,FE.out];simp only [sJ];exact S1.out.two 0 (x / 100) (by omega) rfl⟩
   ·go_wp2
    go_name_slot 15 x0 hx0
    have hxe0:x0=((x % 100*2:Nat):Int):=by omega
    have hXa0:∀w,(Instr.index 9 (.string Lib.smalls) (.int .u32 (x0+1))).run Tryz.prog w=.ok (.int .u8 ((sm (x % 100*2+1)).toNat:Int)) w:=idx_smalls 9 Tryz.underlying9 .u32 _ _ (by omega) (by omega);have hXb0:∀w,(Instr.index 9 (.string Lib.smalls) (.int .u32 x0)).run Tryz.prog w=.ok (.int .u8 ((sm (x % 100*2)).toNat:Int)) w:=idx_smalls 9 Tryz.underlying9 .u32 _ _ (by omega) (by omega);have hlo0:0≤x0:=by omega
    have hhi0:x0≤198:=by omega
    clear hx0 hxe0;go_region
    go_wp2
    go_name_world W1 hW1
    have S1:=hdz (S0.out.two (3) (x) (by have:=S0.out.1;omega) hW1.symm);clear hW1 hc0 hf0 S0 hXa0 hXb0 hlo0 hhi0;obtain ⟨G1,hc1⟩:=S1.out.cells HH.out;have hf1:=S1.out.free HH.out;go_name_slot 14 x1 hx1
    have hxe1:x1=(((x / 100) % 100*2:Nat):Int):=by omega
    have hXa1:∀w,(Instr.index 9 (.string Lib.smalls) (.int .u32 (x1+1))).run Tryz.prog w=.ok (.int .u8 ((sm ((x / 100) % 100*2+1)).toNat:Int)) w:=idx_smalls 9 Tryz.underlying9 .u32 _ _ (by omega) (by omega);have hXb1:∀w,(Instr.index 9 (.string Lib.smalls) (.int .u32 x1)).run Tryz.prog w=.ok (.int .u8 ((sm ((x / 100) % 100*2)).toNat:Int)) w:=idx_smalls 9 Tryz.underlying9 .u32 _ _ (by omega) (by omega);have hlo1:0≤x1:=by omega
    have hhi1:x1≤198:=by omega
    clear hx1 hxe1;go_region
    go_wp2
    go_end0
    exact ⟨rfl,by rw [←FM.out,FE.out];simp only [sJ];exact S1.out.three 1 (x / 100) (x / 100 / 100) (by first|omega|(simp only [IntKind.wrap_u8,IntKind.wrap_u32];omega)) (by omega)⟩
   ·go_wp2
    go_name_slot 15 x0 hx0
    have hxe0:x0=((x % 100*2:Nat):Int):=by omega
    have hXa0:∀w,(Instr.index 9 (.string Lib.smalls) (.int .u32 (x0+1))).run Tryz.prog w=.ok (.int .u8 ((sm (x % 100*2+1)).toNat:Int)) w:=idx_smalls 9 Tryz.underlying9 .u32 _ _ (by omega) (by omega);have hXb0:∀w,(Instr.index 9 (.string Lib.smalls) (.int .u32 x0)).run Tryz.prog w=.ok (.int .u8 ((sm (x % 100*2)).toNat:Int)) w:=idx_smalls 9 Tryz.underlying9 .u32 _ _ (by omega) (by omega);have hlo0:0≤x0:=by omega
    have hhi0:x0≤198:=by omega
    clear hx0 hxe0;go_region
    go_wp2
    go_name_world W1 hW1
    have S1:=hdz (S0.out.two (4) (x) (by have:=S0.out.1;omega) hW1.symm);clear hW1 hc0 hf0 S0 hXa0 hXb0 hlo0 hhi0;obtain ⟨G1,hc1⟩:=S1.out.cells HH.out;have hf1:=S1.out.free HH.out;go_name_slot 14 x1 hx1
    have hxe1:x1=(((x / 100) % 100*2:Nat):Int):=by omega
    have hXa1:∀w,(Instr.index 9 (.string Lib.smalls) (.int .u32 (x1+1))).run Tryz.prog w=.ok (.int .u8 ((sm ((x / 100) % 100*2+1)).toNat:Int)) w:=idx_smalls 9 Tryz.underlying9 .u32 _ _ (by omega) (by omega);have hXb1:∀w,(Instr.index 9 (.string Lib.smalls) (.int .u32 x1)).run Tryz.prog w=.ok (.int .u8 ((sm ((x / 100) % 100*2)).toNat:Int)) w:=idx_smalls 9 Tryz.underlying9 .u32 _ _ (by omega) (by omega);have hlo1:0≤x1:=by omega
    have hhi1:x1≤198:=by omega
    clear hx1 hxe1;go_region
    go_wp2
    go_name_world W2 hW2
    have S2:=hdz (S1.out.two (2) (x / 100) (by have:=S1.out.1;omega) hW2.symm);clear hW2 hc1 hf1 S1 hXa1 hXb1 hlo1 hhi1;obtain ⟨G2,hc2⟩:=S2.out.cells HH.out;have hf2:=S2.out.free HH.out;go_name_slot 16 x2 hx2
    have hxe2:x2=(((x / 100 / 100) % 100*2:Nat):Int):=by omega
    have hXa2:∀w,(Instr.index 9 (.string Lib.smalls) (.int .u32 (x2+1))).run Tryz.prog w=.ok (.int .u8 ((sm ((x / 100 / 100) % 100*2+1)).toNat:Int)) w:=idx_smalls 9 Tryz.underlying9 .u32 _ _ (by omega) (by omega);have hXb2:∀w,(Instr.index 9 (.string Lib.smalls) (.int .u32 x2)).run Tryz.prog w=.ok (.int .u8 ((sm ((x / 100 / 100) % 100*2)).toNat:Int)) w:=idx_smalls 9 Tryz.underlying9 .u32 _ _ (by omega) (by omega);have hlo2:0≤x2:=by omega
    have hhi2:x2≤198:=by omega
    clear hx2 hxe2;go_region
    go_wp2
    go_end0
    exact ⟨rfl,by rw [←FM.out,FE.out];simp only [sJ];exact S2.out.two 0 (x / 100 / 100) (by omega) rfl⟩
   ·go_wp2
    go_name_slot 15 x0 hx0
    have hxe0:x0=((x % 100*2:Nat):Int):=by omega
    have hXa0:∀w,(Instr.index 9 (.string Lib.smalls) (.int .u32 (x0+1))).run Tryz.prog w=.ok (.int .u8 ((sm (x % 100*2+1)).toNat:Int)) w:=idx_smalls 9 Tryz.underlying9 .u32 _ _ (by omega) (by omega);have hXb0:∀w,(Instr.index 9 (.string Lib.smalls) (.int .u32 x0)).run Tryz.prog w=.ok (.int .u8 ((sm (x % 100*2)).toNat:Int)) w:=idx_smalls 9 Tryz.underlying9 .u32 _ _ (by omega) (by omega);have hlo0:0≤x0:=by omega
    have hhi0:x0≤198:=by omega
    clear hx0 hxe0;go_region
    go_wp2
    go_name_world W1 hW1
    have S1:=hdz (S0.out.two (5) (x) (by have:=S0.out.1;omega) hW1.symm);clear hW1 hc0 hf0 S0 hXa0 hXb0 hlo0 hhi0;obtain ⟨G1,hc1⟩:=S1.out.cells HH.out;have hf1:=S1.out.free HH.out;go_name_slot 14 x1 hx1
    have hxe1:x1=(((x / 100) % 100*2:Nat):Int):=by omega
    have hXa1:∀w,(Instr.index 9 (.string Lib.smalls) (.int .u32 (x1+1))).run Tryz.prog w=.ok (.int .u8 ((sm ((x / 100) % 100*2+1)).toNat:Int)) w:=idx_smalls 9 Tryz.underlying9 .u32 _ _ (by omega) (by omega);have hXb1:∀w,(Instr.index 9 (.string Lib.smalls) (.int .u32 x1)).run Tryz.prog w=.ok (.int .u8 ((sm ((x / 100) % 100*2)).toNat:Int)) w:=idx_smalls 9 Tryz.underlying9 .u32 _ _ (by omega) (by omega);have hlo1:0≤x1:=by omega
    have hhi1:x1≤198:=by omega
    clear hx1 hxe1;go_region
    go_wp2
    go_name_world W2 hW2
    have S2:=hdz (S1.out.two (3) (x / 100) (by have:=S1.out.1;omega) hW2.symm);clear hW2 hc1 hf1 S1 hXa1 hXb1 hlo1 hhi1;obtain ⟨G2,hc2⟩:=S2.out.cells HH.out;have hf2:=S2.out.free HH.out;go_name_slot 16 x2 hx2
    have hxe2:x2=(((x / 100 / 100) % 100*2:Nat):Int):=by omega
    have hXa2:∀w,(Instr.index 9 (.string Lib.smalls) (.int .u32 (x2+1))).run Tryz.prog w=.ok (.int .u8 ((sm ((x / 100 / 100) % 100*2+1)).toNat:Int)) w:=idx_smalls 9 Tryz.underlying9 .u32 _ _ (by omega) (by omega);have hXb2:∀w,(Instr.index 9 (.string Lib.smalls) (.int .u32 x2)).run Tryz.prog w=.ok (.int .u8 ((sm ((x / 100 / 100) % 100*2)).toNat:Int)) w:=idx_smalls 9 Tryz.underlying9 .u32 _ _ (by omega) (by omega);have hlo2:0≤x2:=by omega
    have hhi2:x2≤198:=by omega
    clear hx2 hxe2;go_region
    go_wp2
    go_end0
    exact ⟨rfl,by rw [←FM.out,FE.out];simp only [sJ];exact S2.out.three 1 (x / 100 / 100) (x / 100 / 100 / 100) (by first|omega|(simp only [IntKind.wrap_u8,IntKind.wrap_u32];omega)) (by omega)⟩
end Go.Proofs.YtmeodbjlmjpnbaaGreat
namespace Go.Proofs.YtmeodbjlmjpnbaaGreat
open Go.Sort Go.RowKit Go.Lib
theorem Dq (u:Nat)(h2:u<18446744073709551616)(w:World):Calls Tryz.prog 260 #[.int .u64 u] w fun e w'=>e=.returned (.int .i64 (Lib.bitLen u))∧w'=w:=by
 have h:=Any.bits_Len64 (P:=Tryz.prog) (ρ:=Tryz.laysM173_ren) { Tryz.laysM173 with } u w (by omega) (by omega);exact h
theorem Fx (x:Nat)(h:x≤64)(w:World):Calls Tryz.prog 259 #[.int .i64 x] w fun e w'=>e=.returned (.int .i64 (Lib.l10 x))∧w'=w :=
 Any.internal_strconv_log10Pow2 (P:=Tryz.prog) (ρ:=Tryz.laysM173_ren) { Tryz.laysM173 with } x h w
theorem DF (b:Bool)(w:World):Calls Tryz.prog 261 #[.bool b] w fun e w'=>e=.returned (.int .i64 (if b then 1 else 0))∧w'=w :=
 Any.internal_strconv_bool2_int (P:=Tryz.prog) (ρ:=Tryz.laysM173_ren) { Tryz.laysM173 with } b w
theorem CJ (i:Nat)(h:i<100)(w:World):Calls Tryz.prog 252 #[.int .i64 i] w fun e w'=>e=.returned (.string ⟨(Lib.decDigits i).toArray⟩)∧w'=w :=
 Any.internal_strconv_small (P:=Tryz.prog) (ρ:=Tryz.laysM173_ren) { Tryz.laysM173 with } i h w
theorem qU.fresh {w W:World}{T:TypeId}{nd:Nat}{r:Array UInt8}(h:qU (w.alloc (.cells zeros24 T)) w.heap.size 1 nd r W)(hn:1+nd≤24) :
  Below w.heap.size w W∧W.cell? ⟨w.heap.size,0,none⟩=some (.int .u8 0)∧W.frozen? ⟨w.heap.size,0,none⟩=false∧r.toList.length=nd ∧
   ∀j (hj:j<r.toList.length),W.cell? ⟨w.heap.size,1+j,none⟩=some (vO r.toList[j]):=by
 obtain ⟨hs,n,rfl⟩:=h;have hH:=holds_zero w T nd hn;refine ⟨?_,?_,?_,by simpa using hs,fun j hj=>?_⟩
 ·obtain ⟨os,e⟩:=fin_pos w (.cells zeros24 T) r n;rw [e];exact below_grow w n os
 ·rw [World.cell?_drewN,cell?_putRow_other _ _ _ _ _ _ (Or.inr (Or.inl (Nat.zero_lt_one))),World.cell?_alloc_new];exact zeros24_at 0 (by omega)
 ·rw [World.frozen?_drewN,frozen?_putRow];exact World.frozen?_alloc_new _ _ _ _
 ·have hj':j<r.size:=by simpa using hj
  rw [World.cell?_drewN,cell?_putRow vO _ w.heap.size 1 _ r hH (by rw [hs,Array.size_replicate]) j hj',getElem!_pos _ j hj'];rfl
theorem yx:∀(n v:Nat) (r:Array UInt8),(sJ n v r).size=r.size
 | 0,_,_=>rfl
 | 1,_,_=>by simp [sJ]
 | n+2,v,r=>by rw [sJ,yx,lT]
theorem EA (n v:Nat)(r:Array UInt8):(fmt n v r).size=r.size:=by
 induction n using Nat.strongRecOn generalizing v r with
 | _ n ih =>
  by_cases h:n<8
  ·rw [Ef v r n h,yx]
  ·obtain ⟨m,rfl⟩:∃m,n=m+8:=⟨n - 8,by omega⟩;rw [Gq,ih m (by omega),lT,lT,lT,lT]
theorem lC (a b:List UInt8):(⟨a.toArray⟩:ByteArray)++⟨b.toArray⟩=⟨(a++b).toArray⟩:=by
 apply ByteArray.ext
 simp
class Tb where tab:Nat→Int
structure Env [Tb](w:World):Prop where
 tab:∀i,i<20→w.cell? ⟨0,i,none⟩=some (.int .u64 (Tb.tab i))
section
variable [Tb]
theorem Env.below {w w':World}(h:Env w)(hb:Below w.heap.size w w'):Env w' :=
 ⟨fun i hi=>(hb.cell (p:=⟨0,i,none⟩) (block_lt_of_cell (h.tab i hi))).trans (h.tab i hi)⟩
def mG (u:Nat):Nat:=Lib.l10 (Lib.bitLen u)+if Tb.tab (Lib.l10 (Lib.bitLen u))≤(u:Int) then 1 else 0
theorem yU (u:Nat)(h1:1≤u)(h2:u<18446744073709551616):mG u≤20:=by
 have:=(Lib.numDigits_eq u h1 h2).2;unfold mG;split<;>omega
theorem AL (u:Nat)(h1:1≤u)(h2:u<18446744073709551616)(w:World)(he:Env w) :
  Calls Tryz.prog 253 #[.int .u64 u] w fun e w'=>e=.returned (.int .i64 (mG u))∧w'=w:=by
 have h19:=(Lib.numDigits_eq u h1 h2).2;have hL:Lib.bitLen u≤64:=Lib.bitLen_le u 64 (Nat.le_refl _) h2;have hcell:=he.tab (Lib.l10 (Lib.bitLen u)) (by omega);have hto:((u:Int)).toNat=u:=by omega
 have hnd:mG u=Lib.l10 (Lib.bitLen u)+if Tb.tab (Lib.l10 (Lib.bitLen u))≤(u:Int) then 1 else 0:=rfl;generalize hq:Lib.l10 (Lib.bitLen u)=q at hcell h19 hnd;generalize Tb.tab q=T at hcell hnd;generalize mG u=N at hnd;have h20:q<20:=by omega
 have HN:=hdz hnd;clear hnd he;go_enter Tryz.func253,Tryz.ntmps253
 go_wp2_with (first
  | ((with_reducible refine (Dq u h2 _).mono ?_);rintro e w' ⟨rfl,rfl⟩)
  | ((with_reducible refine (Fx _ hL _).mono ?_);rintro e w' ⟨rfl,rfl⟩)
  | ((with_reducible refine (DF _ _).mono ?_);rintro e w' ⟨rfl,rfl⟩))
 all_goals go_ret
 all_goals (
  refine ⟨?_,rfl⟩;have hn:=HN.out;congr 2
  split at hn<;>simp_all<;>omega)
def nV (n:Int):List UInt8 :=
 if 0≤n∧n<100 then Lib.decDigits n.toNat
 else (if n<0 then [45] else [])++(fmt (mG n.natAbs) n.natAbs (Array.replicate (mG n.natAbs) 0)).toList
theorem y5 (n:Int)(h0 : -9223372036854775808≤n)(h1:n≤9223372036854775807)(w:World)(he:Env w) :
  Calls Tryz.prog 245 #[.int .i64 n,.int .i64 10] w fun e w'=>e=.returned (.string ⟨(nV n).toArray⟩)∧Below w.heap.size w w':=by
 by_cases hs:0≤n∧n<100
 ·obtain ⟨i,rfl⟩:∃i:Nat,n=i:=⟨n.toNat,by omega⟩;have hi:i<100:=by omega
  go_enter Tryz.func245,Tryz.ntmps245
  go_wp2_with ((with_reducible refine (CJ i hi _).mono ?_);rintro e w' ⟨rfl,rfl⟩)
  go_ret
  refine ⟨?_,Below.refl _ _⟩;unfold nV;rw [if_pos hs];rfl
 ·by_cases hneg:n<0
  ·obtain ⟨u,rfl⟩:∃u:Nat,n = -(u:Int):=⟨n.natAbs,by omega⟩;have hu1:1≤u:=by omega
   have hu64:u<18446744073709551616:=by omega
   have hit:nV (-(u:Int))=45::(fmt (mG u) u (Array.replicate (mG u) 0)).toList:=by
    unfold nV;rw [if_neg hs,if_pos hneg,Int.natAbs_neg,Int.natAbs_natCast];rfl
   rw [hit];have hnd:=yU u hu1 hu64;have hwr:IntKind.u64.wrap (-IntKind.u64.wrap (-(u:Int)))=(u:Int):=by rw [IntKind.wrap_u64,IntKind.wrap_u64];omega
   have hD:=AL u hu1 hu64 (w.alloc (.cells zeros24 398)) (he.below ((Below.refl w.heap.size w).alloc (Nat.le_refl _) _));have hF:=yE w.heap.size 1 23 u (Array.replicate (mG u) 0) _ (holds_zero w 398 (mG u) (by omega)) hu64 (by rw [Array.size_replicate];omega);rw [Array.size_replicate]at hF;generalize hR:fmt (mG u) u (Array.replicate (mG u) 0)=R at hF;clear hit he hR;generalize mG u=N at hnd hD hF;have hal:Tryz.prog.arrayLen 398=24:=by simp [Program.arrayLen,Tryz.underlying398]
   have hsl1:∀W,(Instr.sliceAt 398 (.pointer (some ⟨w.heap.size,0,none⟩)) (some (.int .i64 1)) (some (.int .i64 (1+(N:Int)))) none).run Tryz.prog W=.ok (.slice (some ⟨w.heap.size,1,none⟩) N 23) W:=fun W=>by
    rw [run_sliceAt_array_lh W 398 ⟨w.heap.size,0,none⟩ (by simp [Program.arrayLen,Program.elem,Tryz.underlying398]) .i64 .i64 1 (1+(N:Int)) (by omega) (by omega) (by rw [hal];omega)];go_simp;omega
   have hsl2:∀W,(Instr.sliceAt 398 (.pointer (some ⟨w.heap.size,0,none⟩)) none (some (.int .i64 (1+(N:Int)))) none).run Tryz.prog W=.ok (.slice (some ⟨w.heap.size,0,none⟩) (1+N) 24) W:=fun W=>by
    rw [run_sliceAt_array_h W 398 ⟨w.heap.size,0,none⟩ (by simp [Program.arrayLen,Program.elem,Tryz.underlying398]) .i64 (1+(N:Int)) (by omega) (by rw [hal];omega)];go_simp;omega
   clear hal;have HD:=hdz hD;have HF:=hdz hF;clear hD hF;go_enter Tryz.func245,Tryz.ntmps245
   go_wp2_with (refine HD.out.mono ?_;rintro e w' ⟨rfl,rfl⟩)
   refine HF.out.mono ?_;rintro e W ⟨rfl,hS⟩;obtain ⟨hb,hc0,hz0,hl,hcs⟩:=hS.fresh (by omega)
   have hcv:(convert 353 9 (.slice (some ⟨w.heap.size,0,none⟩) (1+N) 24)).run Tryz.prog (W.setCell ⟨w.heap.size,0,none⟩ (.int .u8 45))=.ok (.string ⟨(45::R.toList).toArray⟩) (W.setCell ⟨w.heap.size,0,none⟩ (.int .u8 45)):=by
    have h:=run_convert_bytes_back (P:=Tryz.prog) (W.setCell ⟨w.heap.size,0,none⟩ (.int .u8 45)) 353 9 5 ⟨w.heap.size,0,none⟩ 24 (45::R.toList) Tryz.underlying353 Tryz.underlying5 Tryz.underlying9 (fun j hj=>by
     rw [Lib.add_plain,Nat.zero_add]
     cases j with
     | zero=>exact World.cell?_setCell_same _ _ _ hc0
     | succ i =>
      rw [World.cell?_setCell_other _ _ _ _ (by simp),List.getElem_cons_succ,Nat.add_comm i 1];exact hcs i (by simpa using hj))
    rw [List.length_cons,hl,Nat.add_comm]at h;exact h
   have hbs:Below w.heap.size w (W.setCell ⟨w.heap.size,0,none⟩ (.int .u8 45)):=hb.setCell (p:=⟨w.heap.size,0,none⟩) (Nat.le_refl _) _;have HB:=hdz hbs;clear hbs hb hcs hl hS HD HF;go_wp2
   go_ret
   exact ⟨rfl,HB.out⟩
  ·obtain ⟨u,rfl⟩:∃u:Nat,n=u:=⟨n.toNat,by omega⟩;have hu1:1≤u:=by omega
   have hu64:u<18446744073709551616:=by omega
   have hit:nV (u:Int)=(fmt (mG u) u (Array.replicate (mG u) 0)).toList:=by
    unfold nV;rw [if_neg hs,if_neg hneg,Int.natAbs_natCast];rfl
   rw [hit];have hnd:=yU u hu1 hu64;have hD:=AL u hu1 hu64 (w.alloc (.cells zeros24 398)) (he.below ((Below.refl w.heap.size w).alloc (Nat.le_refl _) _));have hF:=yE w.heap.size 1 23 u (Array.replicate (mG u) 0) _ (holds_zero w 398 (mG u) (by omega)) hu64 (by rw [Array.size_replicate];omega);rw [Array.size_replicate]at hF;generalize hR:fmt (mG u) u (Array.replicate (mG u) 0)=R at hF;clear hit he hR;generalize mG u=N at hnd hD hF;have hal:Tryz.prog.arrayLen 398=24:=by simp [Program.arrayLen,Tryz.underlying398]
   have hsl1:∀W,(Instr.sliceAt 398 (.pointer (some ⟨w.heap.size,0,none⟩)) (some (.int .i64 1)) (some (.int .i64 (1+(N:Int)))) none).run Tryz.prog W=.ok (.slice (some ⟨w.heap.size,1,none⟩) N 23) W:=fun W=>by
    rw [run_sliceAt_array_lh W 398 ⟨w.heap.size,0,none⟩ (by simp [Program.arrayLen,Program.elem,Tryz.underlying398]) .i64 .i64 1 (1+(N:Int)) (by omega) (by omega) (by rw [hal];omega)];go_simp;omega
   clear hal;have HD:=hdz hD;have HF:=hdz hF;clear hD hF;go_enter Tryz.func245,Tryz.ntmps245
   go_wp2_with (refine HD.out.mono ?_;rintro e w' ⟨rfl,rfl⟩)
   refine HF.out.mono ?_;rintro e W ⟨rfl,hS⟩;obtain ⟨hb, -, -,hl,hcs⟩:=hS.fresh (by omega)
   have hcv:(convert 353 9 (.slice (some ⟨w.heap.size,1,none⟩) N 23)).run Tryz.prog W=.ok (.string ⟨R.toList.toArray⟩) W:=by
    have h:=run_convert_bytes_back (P:=Tryz.prog) W 353 9 5 ⟨w.heap.size,1,none⟩ 23 R.toList Tryz.underlying353 Tryz.underlying5 Tryz.underlying9 (fun j hj=>by
     rw [Lib.add_plain];exact hcs j hj)
    rw [hl]at h;exact h
   have HB:=hdz hb;clear hb hcs hl hS HD HF;go_wp2
   go_ret
   exact ⟨rfl,HB.out⟩
theorem yo (n:Int)(h0 : -9223372036854775808≤n)(h1:n≤9223372036854775807)(w:World)(he:Env w) :
  Calls Tryz.prog 236 #[.int .i64 n,.int .i64 10] w fun e w'=>e=.returned (.string ⟨(nV n).toArray⟩)∧Below w.heap.size w w':=by
 have H:=hdz (y5 n h0 h1 w he);clear he;go_enter Tryz.func236,Tryz.ntmps236
 go_wp2_with (refine H.out.mono ?_;rintro e w' ⟨rfl,hb⟩)
 go_ret
 exact ⟨rfl,hb⟩
theorem ko (n:Int)(h0 : -9223372036854775808≤n)(h1:n≤9223372036854775807):(nV n).length≤21:=by
 unfold nV;split
 ·rename_i h
  have:=Lib.itoa_length_le n h0 h1;obtain ⟨i,rfl⟩:∃i:Nat,n=i:=⟨n.toNat,by omega⟩;rw [Lib.itoa_nonneg]at this;simpa using Nat.le_trans this (by omega)
 ·have:=yU n.natAbs (by omega) (by omega);have e:(fmt (mG n.natAbs) n.natAbs (Array.replicate (mG n.natAbs) 0)).toList.length=mG n.natAbs:=by rw [Array.length_toList,EA,Array.size_replicate]
  rw [List.length_append,e];split<;>simp<;>omega
def nW (p q:Int):List UInt8:=nV p++(58::nV q)
theorem dW (p q:Int)(hp : -9223372036854775808≤p∧p≤9223372036854775807)(hq : -9223372036854775808≤q∧q≤9223372036854775807):(nW p q).length≤43:=by
 have:=ko p hp.1 hp.2;have:=ko q hq.1 hq.2;simp only [nW,List.length_append,List.length_cons];omega
theorem uF (p q:Int)(hp : -9223372036854775808≤p∧p≤9223372036854775807)(hq : -9223372036854775808≤q∧q≤9223372036854775807)(w:World)(he:Env w) :
  Calls Tryz.prog 225 #[.agg #[.int .i64 p,.int .i64 q]] w fun e w'=>e=.returned (.string ⟨(nW p q).toArray⟩)∧Below w.heap.size w w':=by
 have lp:=ko p hp.1 hp.2;have lq:=ko q hq.1 hq.2
 have hF:∀(n:Int) (h0 : -9223372036854775808≤n) (h1:n≤9223372036854775807) (o:Obj) d os,Calls Tryz.prog 236 #[.int .i64 n,.int .i64 10] (grow (redrawn (w.alloc o) d) os) fun e w''=>e=.returned (.string ⟨(nV n).toArray⟩) ∧ ∃r:Regrown,w''=grow (redrawn (w.alloc o) r.d) r.os :=
  fun n h0 h1 o d os=>Calls.regrown_of (yo n h0 h1 _ ((he.below ((Below.refl w.heap.size w).alloc (Nat.le_refl _) o)).below (below_regrown _ d os)))
 have HF:=hdz hF;clear hF he;obtain ⟨hp0,hp1⟩:=hp;obtain ⟨hq0,hq1⟩:=hq;obtain ⟨c0,c1,_,_,_,hb⟩:=xQ (w:=w) (x := .int .i64 p) (y := .int .i64 q) (t := 29) (Below.refl _ _);have k0:=fun d os=>cell_regrown c0 d os;have k1:=fun d os=>cell_regrown c1 d os;clear c0 c1;have HB:=hdz hb;clear hb;have n1:¬9223372036854775807<(nV p).length+1:=by omega
 have n2:¬9223372036854775807<(nV p).length+1+(nV q).length:=by omega
 go_enter Tryz.func225,Tryz.ntmps225
 go_wp2_with fail
 refine wp_region_quiet_below (by kernel_rfl) (by kernel_rfl) ?_;repeat (go_big_quiet_step ((with_reducible exact HF.out _ (by assumption) (by assumption) _ _ _)))
 refine wpQuiet_nil ?_;intro _ hw';obtain ⟨⟨dq,osq⟩,hw''⟩:=hw';subst hw'';go_wp2
 go_ret
 refine ⟨?_,HB.out.trans ((below_regrown _ dq osq).mono HB.out.size)⟩;rw [show (⟨#[58]⟩:ByteArray)=⟨[58].toArray⟩ from rfl,lC,lC];simp [nW]
theorem qN (x:Int×Int)(h:iw x.1∧iw x.2)(w:World)(he:Env w) :
  Calls Tryz.prog 225 #[.agg #[.int .i64 x.1,.int .i64 x.2]] w fun e w'=>e=.returned (.string ⟨(nW x.1 x.2).toArray⟩)∧Below w.heap.size w w':=uF x.1 x.2 h.1 h.2 w he
end
end Go.Proofs.YtmeodbjlmjpnbaaGreat
namespace Go.Proofs
open Go.Shelf
def Tryz.lays166_ren:Go.Shelf.Ren:=⟨fun|166=>224|240=>235|276=>244|n=>n,fun|70=>352|9=>9|0=>0|72=>355|37=>353|3=>3|4=>4|5=>5|20=>20|75=>364|80=>74|164=>309|n=>n,fun|n=>n⟩
theorem Tryz.lays166:Go.Proofs.Lays.n166 Tryz.prog Tryz.lays166_ren:={
 mixed:=by kernel_rfl
 f166:=Tryz.func224.trans (congrArg some (by kernel_rfl))
 f240:=Tryz.func235.trans (congrArg some (by kernel_rfl))
 f276:=Tryz.func244.trans (congrArg some (by kernel_rfl))
 t0:=Tryz.underlying0
 a0:=Tryz.isAgg0
 z0:=Tryz.sizeOf0
 v0:=Tryz.zeroValue0
 t3:=Tryz.underlying3
 a3:=Tryz.isAgg3
 z3:=Tryz.sizeOf3
 v3:=Tryz.zeroValue3
 t4:=Tryz.underlying4
 a4:=Tryz.isAgg4
 z4:=Tryz.sizeOf4
 v4:=Tryz.zeroValue4
 t9:=Tryz.underlying9
 a9:=Tryz.isAgg9
 z9:=Tryz.sizeOf9
 v9:=Tryz.zeroValue9
 t20:=Tryz.underlying20
 a20:=Tryz.isAgg20
 z20:=Tryz.sizeOf20
 v20:=Tryz.zeroValue20
 t37:=Tryz.underlying353
 a37:=Tryz.isAgg353
 z37:=Tryz.sizeOf353
 v37:=Tryz.zeroValue353
 t70:=Tryz.underlying352
 a70:=Tryz.isAgg352
 z70:=Tryz.sizeOf352
 v70:=Tryz.zeroValue352
 t72:=Tryz.underlying355
 a72:=Tryz.isAgg355
 z72:=Tryz.sizeOf355
 v72:=Tryz.zeroValue355
 t75:=Tryz.underlying364
 a75:=Tryz.isAgg364
 z75:=Tryz.sizeOf364
 v75:=Tryz.zeroValue364
 t164:=Tryz.underlying309
 a164:=Tryz.isAgg309
 z164:=Tryz.sizeOf309
 v164:=Tryz.zeroValue309 }
theorem Tryz.Builder_Extra_166:Builder.Extra Tryz.prog Tryz.lays166_ren:={
 sizeBuilder:=by kernel_rfl
 liesBuilder:=by kernel_rfl
 t5:=Tryz.underlying5
 a5:=Tryz.isAgg5
 z5:=Tryz.sizeOf5
 v5:=Tryz.zeroValue5
 infoByte:=by kernel_rfl
 cellsByte:=by kernel_rfl
 sizeByte:=by kernel_rfl
 neB5:=by decide }
end Go.Proofs
namespace Go.Proofs.YtmeodbjlmjpnbaaGreat
open Go.Sort Go.RowKit
def mD (base g:Nat)(l:List UInt8)(w:World):Prop:=Lib.IsBuilderF 355 5 base g (Lib.byteCells l) w
theorem qE {base g:Nat}{p:Value}{bs:List Value}{w w':World}{row:Option Nat}(h:Lib.BuilderAtF 355 5 base g p bs w)(hg:w.grownBy w' row)
  (hr:∀k,row=some k → ∃cs t fz,w.heap[k]?=some (.cells cs t fz)∧t≠355∧t≠5):Lib.BuilderAtF 355 5 base g p bs w':=by
 obtain ⟨hB,v,hh,hown,hne⟩:=h;refine ⟨hB,v,(hg.block g (lt_of_heap hh) (fun e=>?_)).trans hh,hown.kept hg ?_,hne⟩
 ·obtain ⟨cs,t,fz,h1,h2, -⟩:=hr g e.symm;rw [hh]at h1
  cases h1
  exact h2 rfl
 ·cases hv:v.ownBlock with
  | none=>exact .inl rfl
  | some k =>
   refine .inr (fun e=>?_);obtain ⟨cs,t,fz,h1, -,h3⟩:=hr k e.symm;obtain ⟨c,f,h4⟩:=Lib.ownsRowF_kind hown k hv;rw [h4]at h1
   cases h1
   exact h3 rfl
theorem mD.grown {base g:Nat}{l:List UInt8}{w w':World}{row:Option Nat}(h:mD base g l w)(hg:w.grownBy w' row)
  (hr:∀k,row=some k → ∃cs t fz,w.heap[k]?=some (.cells cs t fz)∧t≠355∧t≠5):mD base g l w':=h.imp (qE · hg hr) (qE · hg hr)
theorem mD.stay {base g:Nat}{l:List UInt8}{w w':World}(h:mD base g l w)(hb:Below w.heap.size w w'):mD base g l w' :=
 h.grown (row:=none) ⟨hb.os,hb.tape,hb.output,hb.size,fun k hk _=>hb.block k hk⟩ (fun k e=>by cases e)
theorem mD.block {base g:Nat}{l:List UInt8}{w:World}(h:mD base g l w):base≤g ∧ ∃cs,w.heap[g]?=some (.cells cs 355 (0,0)):=by
 rcases h with ⟨hB,v,hh, -⟩|⟨hB,v,hh, -⟩<;>exact ⟨hB,_,hh⟩
theorem qw (w:World):mD w.heap.size w.heap.size [] (w.alloc (.cells #[.pointer none,.slice none 0 0] 355)) :=
 .inl ⟨Nat.le_refl _,.slice none 0 0,heap_alloc_new w _,World.ownsRowF_nil _ _ _ _,by simp [Value.ownBlock]⟩
structure Wrote (base g:Nat)(w w':World):Prop where
 below:Below base w w'
 others:Lib.OthersKept 5 (some g) w w'
theorem Wrote.heap {base g:Nat}{w w':World}(h:Wrote base g w w'){k:Nat}{cs:Array Value}{t:TypeId}{z:Nat×Nat}(hk:w.heap[k]?=some (.cells cs t z))(hg:k≠g)(ht:t≠5):w'.heap[k]?=some (.cells cs t z) :=
 h.others k _ hk (fun e=>hg (by injection e)) (fun c fz e=>ht (by injection e))
theorem Wrote.trans {base g:Nat}{u v w:World}(h:Wrote base g u v)(k:Wrote base g v w):Wrote base g u w:=⟨h.below.trans k.below,h.others.trans k.others⟩
theorem yB (base g:Nat)(l s:List UInt8)(w:World)(h:mD base g l w)(hl:l.length+s.length≤140737488355328)(hbw:base≤w.heap.size) :
  Calls Tryz.prog 224 #[.pointer (some ⟨g,0,none⟩),.string ⟨s.toArray⟩] w fun e w' => ∃v,e=.returned v∧mD base g (l++s) w'∧Wrote base g w w':=by
 refine (Any.Builder_WriteString_k Tryz.lays166 Tryz.Builder_Extra_166 base g (Lib.byteCells l) ⟨s.toArray⟩ w h (by rw [Lib.byteCells_length];simpa [ByteArray.size] using hl) hbw).mono fun e w' ⟨he,hB,hb,ho⟩=>⟨_,he,?_,hb,ho⟩;rw [Lib.strCells_eq]at hB;have e1:Lib.byteCells l++Lib.byteCells (⟨s.toArray⟩:ByteArray).data.toList=Lib.byteCells (l++s):=by rw [Lib.byteCells_append]
 rw [e1]at hB;exact Or.inr hB
theorem lS (base g:Nat)(l t:List UInt8)(s:ByteArray)(w:World)(hs:s=⟨t.toArray⟩)(h:mD base g l w)(hl:l.length+t.length≤140737488355328)(hbw:base≤w.heap.size) :
  Calls Tryz.prog 224 #[.pointer (some ⟨g,0,none⟩),.string s] w fun e w' => ∃v,e=.returned v∧mD base g (l++t) w'∧Wrote base g w w':=by
 rw [hs];exact yB base g l t w h hl hbw
theorem sQ (base g:Nat)(l:List UInt8)(w:World)(h:mD base g l w)(hb:base≤w.heap.size):Calls Tryz.prog 221 #[.pointer (some ⟨g,0,none⟩)] w fun e w'=>e=.returned (.string ⟨l.toArray⟩)∧Below base w w' :=
 (Any.Builder_String_any_f Tryz.lays169 Tryz.Builder_Extra_169 base g l w h hb).mono fun _ _ ⟨he,_,hw⟩=>⟨he,hw⟩
theorem pz (c:UInt8)(t:List UInt8):(⟨#[c]⟩:ByteArray)++⟨t.toArray⟩=⟨(c::t).toArray⟩:=zI [c] t
end Go.Proofs.YtmeodbjlmjpnbaaGreat
namespace Go.Proofs.YtmeodbjlmjpnbaaGreat
open Go.Sort Go.RowKit
structure vU [Tb](T:TypeId)(fW:FuncId)(At:World→Value→List (Int×Int)→Prop):Prop where
 mW:∀(n:Nat) (v:Value) (w:World),(method (n+1) T v "slagheap/heap.show").run Tryz.prog w=.ok (fW,v) w
 cW:∀(args:Array Value) (w:World),(callFunc fW args).run Tryz.prog w=.ok (.enter fW args) w
 shows:∀(v:Value) (l:List (Int×Int)) (W:World),At W v l→l.length<16777216→fits l → ∃s:List UInt8,∀W',bO NH W W'→W.heap.size≤W'.heap.size→Env W' →
  Calls Tryz.prog fW #[v] W' fun e w'=>e=.returned (.string ⟨s.toArray⟩)∧Below W'.heap.size W' w'
theorem oM {l:List (Int×Int)}(h:fits (dw l)):fits l:=fun e he=>h e ((jv l).2.mem_iff.2 he)
end Go.Proofs.YtmeodbjlmjpnbaaGreat
namespace Go.Proofs.YtmeodbjlmjpnbaaGreat
open Go.Sort Go.RowKit
theorem rR {w:World}(h:w.ShapedOpen Tryz.prog)(i:Nat)(hi:i<20):∃m,w.cell? ⟨0,i,none⟩=some (.int .u64 m):=by
 obtain ⟨cs,hh,hs,hr⟩:=h.1 0 (Array.replicate 20 (.int .u64 0)) 407 (of_decide_eq_true (by kernel_rfl)) (by kernel_rfl);obtain ⟨ts,hts,_,hall⟩:=hr (by kernel_rfl);rw [show Tryz.prog.cellTypes Tryz.prog.depth 407=some (List.replicate 20 394) from by kernel_rfl]at hts
 cases hts
 have h1:i<cs.size:=by rw [hs,Array.size_replicate];exact hi
 obtain ⟨u,hu',hok⟩:=hall i cs[i] (by simp [h1])
 have:u=394 := by
  have h2:=List.mem_of_getElem? hu';exact List.eq_of_mem_replicate h2
 subst this;have hcell:w.cell? ⟨0,i,none⟩=some cs[i]:=by simp [World.cell?,hh,h1]
 rw [hcell];unfold Cell.ok at hok;rw [Tryz.underlying394]at hok
 cases hv:cs[i]<;>rw [hv]at hok<;>simp at hok
 case int k' n=>exact ⟨n,by rw [hok.1]⟩
theorem GD {w:World}(h:w.ShapedOpen Tryz.prog):∃T:Tb,@Env T w:=by
 refine ⟨⟨fun i=>if hi:i<20 then Classical.choose (rR h i hi) else 0⟩,?_⟩;letI:Tb:=⟨fun i=>if hi:i<20 then Classical.choose (rR h i hi) else 0⟩
 refine Env.mk (fun i hi=>?_);have:=Classical.choose_spec (rR h i hi);rw [this];show some (Value.int .u64 _)=some (Value.int .u64 (if hi:i<20 then Classical.choose (rR h i hi) else 0));rw [dif_pos hi]
end Go.Proofs.YtmeodbjlmjpnbaaGreat
