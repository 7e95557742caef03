import Derived.Deep.QuietTactic
import Derived.BigQuiet
import Derived.RegionTactic
import Derived.BigRegion
import Derived.Maps.AppendAt
import Derived.Deep.LoopGhost
import Derived.Deep.Light
import Derived.Deep.RegionWith
import Derived.Deep.RegionLaw
import Derived.Test.YtdghkacbpebcoaaGreatS00
namespace Go.Proofs.YtdghkacbpebcoaaGreat
open Go.RowKit
open Value renaming slice→J
open List renaming length→O
open Option renaming none→I
open World renaming heap→U
open _root_.Array renaming size→E
open Obj renaming cells→Ob
set_option linter.all false
set_option maxRecDepth 100000
set_option maxHeartbeats 0
section
variable{p:Addr} {a k:Int} {B b cap i rb tb:Nat} {w w':World}
structure Tk where
 len:Nat
 kind:Nat->Nat
 pos:Nat->Nat
 text:Nat->ByteArray
 num:Nat->Nat
def hJ (s:ByteArray):Prop:=s.toList≠[]/\(58:UInt8)∉s.toList
structure Tk.Good (t:Tk):Prop where
 name:∀j,t.kind j=2->hJ (t.text j)
 some_:0<t.len
 bj:t.len<=6001
 last:t.kind (t.len - 1)=0
 aQ:∀j,t.pos j<=6000
 pJ:∀j,(t.text j).size<=6000
 xB:∀j,t.num j<=9223372036854775807
structure Row (w:World) (tb:Nat) (t:Tk):Prop where
 lt:tb<E (U w)
 c0:∀j,j<t.len->w.cell? ⟨tb,j*4,I⟩=some (.int .i64 (t.kind j))
 c1:∀j,j<t.len->w.cell? ⟨tb,j*4+1,I⟩=some (.int .i64 (t.pos j))
 c2:∀j,j<t.len->w.cell? ⟨tb,j*4+2,I⟩=some (.string (t.text j))
 c3:∀j,j<t.len->w.cell? ⟨tb,j*4+3,I⟩=some (.int .i64 (t.num j))
structure Rd (w:World) (rb tb cap:Nat) (t:Tk) (i:Nat) (k a:Int):Prop where
 dV:w.heap[rb]? =some (Ob #[J (some ⟨tb,0,I⟩) t.len cap,.int .i64 i,.int .i64 k,.int .i64 a] 58 (0,0))
 row:Row w tb t
 ne:rb≠tb
 ar:t.Good
 lt:i<t.len
structure Kp (B rb:Nat) (w w':World):Prop where
 os:w'.os=w.os
 tape:w'.tape=w.tape
 output:w'.output=w.output
 size:E (U w)<=E (U w')
 block:∀k,k<B->k≠rb->w'.heap[k]? =w.heap[k]?
theorem Kp.refl (B rb:Nat) (w:World):Kp B rb w w:=⟨Q,Q,Q,lR _,λ_ _ _=>rfl⟩
theorem Kp.trans {a b c:World} (h:Kp B rb a b) (k:Kp B rb b c):Kp B rb a c:=
 ⟨k.os.trans h.os,k.tape.trans h.tape,k.output.trans h.output,lT h.size k.size,λi d e=>(k.block i d e).trans (h.block i d e)⟩
theorem Kp.mono {c:Nat} (h:Kp B rb w w') (d:c<=B):Kp c rb w w':=⟨h.os,h.tape,h.output,h.size,λk e f=>h.block k (Nat.lt_of_lt_of_le e d) f⟩
theorem Kp.al (h:Below B w w'):Kp B rb w w':=⟨h.os,h.tape,h.output,h.size,λk c _=>h.block k c⟩
theorem Kp.drewN {a:World} (h:Kp B rb a w) (n:Nat):Kp B rb a (w.drewN n):=⟨h.os,h.tape,h.output,h.size,h.block⟩
theorem Kp.drew {a:World} (h:Kp B rb a w):Kp B rb a w.drew:=⟨h.os,h.tape,h.output,h.size,h.block⟩
theorem Kp.alloc {a:World} (h:Kp B rb a w) (c:B<=E (U w)) (o:Obj):Kp B rb a (w.alloc o):=
 h.trans ⟨Q,Q,Q,sQ,λk d _=>Below.heap_alloc _ _ _ oM⟩
theorem Kp.setCell {a:World} (h:Kp B rb a w) (c:B<=p.block\/p.block=rb) (u:Value):Kp B rb a (w.setCell p u):=
 h.trans ⟨Q,Q,Q,by simp[World.setCell],λk d e=>Below.heap_setCell _ _ _ _ oM⟩
theorem Kp.grown {a:World} {d:Option Nat} (h:Kp B rb a w) (c:w.grownBy w' d) (j:B<=E (U w)) (e:∀k,d=some k->B<=k):Kp B rb a w':=
 h.trans ⟨c.os,c.tape,c.output,c.size,λk l _=>c.block k oM (λf=>oH (e k f.symm))⟩
theorem Kp.cell (h:Kp B rb w w') (c:p.block<B) (d:p.block≠rb):w'.cell? p=w.cell? p:=World.cell?_of_block (w:=w) (h.block p.block c d)
theorem Row.fC {t:Tk} (h:Row w tb t) (f:w'.heap[tb]? =w.heap[tb]?):Row w' tb t:=by
 have e:∀j,w'.cell? ⟨tb,j,I⟩=w.cell? ⟨tb,j,I⟩:=λj=>World.cell?_of_block (w:=w) f
 have l:tb<E (U w'):=by
  have m:w.heap[tb]? =some (w.heap[tb]'h.lt):=Array.getElem?_eq_getElem h.lt;rw[m] at f;exact(gE f).1
 exact⟨l,λc d=>by rw[e];exact h.c0 c d,λc d=>by rw[e];exact h.c1 c d,λc d=>by rw[e];exact h.c2 c d,λc d=>by rw[e];exact h.c3 c d⟩
section
variable{w:World} {rb tb cap i:Nat} {t:Tk} {k a:Int}
theorem Rd.l (h:Rd w rb tb cap t i k a):rb<E (U w):=(gE h.dV).1
theorem Rd.r0 (h:Rd w rb tb cap t i k a):w.cell? ⟨rb,0,I⟩=some (J (some ⟨tb,0,I⟩) t.len cap):=by rw[cell_of_row w rb 0 _ 58 (0,0) h.dV];rfl
theorem Rd.r1 (h:Rd w rb tb cap t i k a):w.cell? ⟨rb,1,I⟩=some (.int .i64 i):=by rw[cell_of_row w rb 1 _ 58 (0,0) h.dV];rfl
theorem Rd.r2 (h:Rd w rb tb cap t i k a):w.cell? ⟨rb,2,I⟩=some (.int .i64 k):=by rw[cell_of_row w rb 2 _ 58 (0,0) h.dV];rfl
theorem Rd.r3 (h:Rd w rb tb cap t i k a):w.cell? ⟨rb,3,I⟩=some (.int .i64 a):=by rw[cell_of_row w rb 3 _ 58 (0,0) h.dV];rfl
theorem Rd.fz (h:Rd w rb tb cap t i k a) (j:Nat):w.frozen? ⟨rb,j,I⟩=false:=frozen_of_row w rb j _ 58 h.dV
end
theorem jy {t:Tk} (h:Rd w rb tb cap t i k a):
 Calls Tryz.prog 16 #[.pointer (some ⟨rb,0,I⟩)] w λc w'=>c=.returned (.bool (k==0))/\w'=w:=by
 have d:=h.r2;go_enter Tryz.func16,Tryz.ntmps16
 go_wp2
 go_ret;exact⟨Q,Q⟩
theorem dE {t:Tk} (h:Rd w rb tb cap t i k a):
 Calls Tryz.prog 32 #[.pointer (some ⟨rb,0,I⟩)] w λc w'=>c=.returned (.agg #[.int .i64 (t.kind i),.int .i64 (t.pos i),.string (t.text i),.int .i64 (t.num i)])/\Below (E (U w)) w w':=by
 have d:=h.r0;have e:=h.r1;have f:=h.l;have j:=h.row.lt;have l:=h.row.c0 i h.lt;have m:=h.row.c1 i h.lt;have n:=h.row.c2 i h.lt;have o:=h.row.c3 i h.lt;have q:(i:Int)<(t.len:Int):=oH h.lt;go_enter Tryz.func32,Tryz.ntmps32
 go_wp2_with fail;go_region;go_wp2_with fail;exact bodyPost_ret (v:=.agg #[.int .i64 (t.kind i),.int .i64 (t.pos i),.string (t.text i),.int .i64 (t.num i)]) (by simp[results,Tryz.results32,go_sem]) Q ⟨Q,((Below.refl _ _).alloc (lR _) _).drew⟩
theorem Rd.below {t:Tk} (h:Rd w rb tb cap t i k a) (c:Below (E (U w)) w w'):Rd w' rb tb cap t i k a:=
 ⟨by rw[c.block rb h.l];exact h.dV,h.row.fC (c.block tb h.row.lt),h.ne,h.ar,h.lt⟩
def bS (t:Tk) (i:Nat) (k:Int) (ahead:Nat) (s:ByteArray):Bool:=
 (k==0)&&(decide (i+ahead<t.len)&&((t.kind (i+ahead)==5||t.kind (i+ahead)==3)&&((t.text (i+ahead)).toList==s.toList)))
def cj (t:Tk) (i:Nat) (k:Int) (ahead:Nat) (q:Int):Bool:=
 (k==0)&&(decide (i+ahead<t.len)&&((t.kind (i+ahead):Int)==q))
theorem Rd.drewN {t:Tk} (h:Rd w rb tb cap t i k a) (n:Nat):Rd (w.drewN n) rb tb cap t i k a:=
 ⟨h.dV,h.row.fC Q,h.ne,h.ar,h.lt⟩
theorem below_drewN (w:World) (n:Nat):Below (E (U w)) w (w.drewN n):=⟨Q,Q,Q,lR _,λ_ _=>rfl⟩
theorem bC {t:Tk} (h:Rd w rb tb cap t i k a) (c:Nat) (n:c<=2) (q:Int):
 Calls Tryz.prog 17 #[.pointer (some ⟨rb,0,I⟩),.int .i64 c,.int .i64 q] w λj w'=>j=.returned (.bool (cj t i k c q))/\Below (E (U w)) w w':=by
 have o:=h.r0;have r:=h.r1;have s:=h.l;have u:=h.row.lt;have v:(i:Int)<(t.len:Int):=oH h.lt;have x:(t.len:Int)<=6001:=oH h.ar.bj;have d:∀e,Calls Tryz.prog 16 #[.pointer (some ⟨rb,0,I⟩)] (w.drewN e) λj w'=>j=.returned (.bool (k==0))/\w'=w.drewN e:=λe=>jy (h.drewN e)
 cases f:(k==0)<;>rw[f] at d
 ·go_enter Tryz.func17,Tryz.ntmps17
  go_wp2_with fail;go_quiet ((go_at_call 16;exact Calls.quiet_of_same (d _)))
  go_wp2_with fail;go_ret;exact⟨dS (by unfold cj;rw[f];rfl),below_drewN _ _⟩
 ·by_cases l:i+c<t.len
  ·have m:(i:Int)+(c:Int)<(t.len:Int):=oM;have y:=h.row.c0 (i+c) l;go_enter Tryz.func17,Tryz.ntmps17
   go_wp2_with fail;go_quiet ((go_at_call 16;exact Calls.quiet_of_same (d _)))
   go_wp2_with fail;go_ret;exact⟨dS (by unfold cj;rw[f];simp[l]),below_drewN _ _⟩
  ·have m:decide ((i:Int)+(c:Int)<(t.len:Int))=false:=by simp;omega
   go_enter Tryz.func17,Tryz.ntmps17
   go_wp2_with fail;go_quiet ((go_at_call 16;exact Calls.quiet_of_same (d _)))
   go_wp2_with fail;go_ret;exact⟨dS (by unfold cj;rw[f];simp[l]),below_drewN _ _⟩
theorem aX {t:Tk} (h:Rd w rb tb cap t i k a) (c:Nat) (q:c<=2) (s:ByteArray):
 Calls Tryz.prog 35 #[.pointer (some ⟨rb,0,I⟩),.int .i64 c,.string s] w λm w'=>m=.returned (.bool (bS t i k c s))/\Below (E (U w)) w w':=by
 have r:=h.r0;have u:=h.r1;have v:=h.l;have x:=h.row.lt;have y:(i:Int)<(t.len:Int):=oH h.lt;have z:(t.len:Int)<=6001:=oH h.ar.bj;have f:∀j,Calls Tryz.prog 16 #[.pointer (some ⟨rb,0,I⟩)] (w.drewN j) λm w'=>m=.returned (.bool (k==0))/\w'=w.drewN j:=λj=>jy (h.drewN j)
 cases l:(k==0)<;>rw[l] at f
 ·go_enter Tryz.func35,Tryz.ntmps35
  go_wp2_with fail;go_quiet ((go_at_call 16;exact Calls.quiet_of_same (f _)))
  go_wp2_with fail;go_ret;exact⟨dS (by unfold bS;rw[l];rfl),below_drewN _ _⟩
 ·by_cases e:i+c<t.len
  ·have o:(i:Int)+(c:Int)<(t.len:Int):=oM;have A:decide ((t.len:Int)<=(i:Int)+(c:Int))=false:=by simp;omega
   have C:IntKind.i64.wrap ((i:Int)+(c:Int))=((i+c:Nat):Int):=by rw[IntKind.wrap_i64];omega
   have D:((i+c:Nat):Int)<(t.len:Int):=oM;go_enter Tryz.func35,Tryz.ntmps35
   go_wp2_with fail;go_quiet ((go_at_call 16;exact Calls.quiet_of_same (f _)))
   rename_i nq
   have d:=h.drewN nq;have n:=below_drewN w nq;generalize w.drewN nq=F at d n⊢;have G:=d.r0;have H:=d.r1;have K:=d.l;have L:=d.row.lt;have M:=d.row.c0 (i+c) e;have N:=d.row.c1 (i+c) e;have P:=d.row.c2 (i+c) e;have R:=d.row.c3 (i+c) e;go_wp2_with fail;go_region;go_wp2_with fail
   all_goals
    go_ret;refine⟨dS ?_,(n.alloc n.size _).drew⟩;unfold bS;rw[l,decide_eq_true e];first|(rw[show(t.kind (i+c)==5||t.kind (i+c)==3)=true by simp;omega];simp;done)|(rw[show(t.kind (i+c)==5||t.kind (i+c)==3)=false by simp;omega];simp;done)
  ·have o:decide ((t.len:Int)<=(i:Int)+(c:Int))=true:=by simp;omega
   go_enter Tryz.func35,Tryz.ntmps35
   go_wp2_with fail;go_quiet ((go_at_call 16;exact Calls.quiet_of_same (f _)))
   go_wp2_with fail;go_ret;exact⟨dS (by unfold bS;rw[l];simp[e]),below_drewN _ _⟩
abbrev ae (kind pos n m:Int) (name:ByteArray) (kids:Value):Array Value:=#[.int .i64 kind,.int .i64 pos,.int .i64 n,.int .i64 m,.string name,kids,.int .i64 0,.int .i64 0,J I 0 0,J I 0 0,J I 0 0]
theorem yg {W d:World} (e:Below (E (U W)) W d):(∀b c,b<E (U W)->d.cell? ⟨b,c,I⟩=W.cell? ⟨b,c,I⟩)/\(∀b c,b<E (U W)->d.frozen? ⟨b,c,I⟩=W.frozen? ⟨b,c,I⟩):=
 ⟨λb c h=>e.cell (p:=⟨b,c,I⟩) h,λb c h=>e.frozen (p:=⟨b,c,I⟩) h⟩
theorem Rd.alloc {t:Tk} (h:Rd w rb tb cap t i k a) (o:Obj):Rd (w.alloc o) rb tb cap t i k a:=h.below ((Below.refl _ _).alloc (lR _) o)
theorem Rd.drew {t:Tk} (h:Rd w rb tb cap t i k a):Rd w.drew rb tb cap t i k a:=h.below (Below.refl _ _).drew
abbrev aK (w:World) (b:Nat) (c0 c1 c2 c3 c4 c5 c6 c7 c8 c9 c10:Value):World:=(((((((((((w.setCell ⟨b,0,I⟩ c0).setCell ⟨b,1,I⟩ c1).setCell ⟨b,2,I⟩ c2).setCell ⟨b,3,I⟩ c3).setCell ⟨b,4,I⟩ c4).setCell ⟨b,5,I⟩ c5).setCell ⟨b,6,I⟩ c6).setCell ⟨b,7,I⟩ c7).setCell ⟨b,8,I⟩ c8).setCell ⟨b,9,I⟩ c9).setCell ⟨b,10,I⟩ c10)
theorem Below.aK {a:World} (h:Below B a w) (c:B<=b) (c0 c1 c2 c3 d e f j l m n:Value):Below B a (aK w b c0 c1 c2 c3 d e f j l m n):=
 (Below.setCell (p:=⟨b,10,I⟩) (Below.setCell (p:=⟨b,9,I⟩) (Below.setCell (p:=⟨b,8,I⟩) (Below.setCell (p:=⟨b,7,I⟩) (Below.setCell (p:=⟨b,6,I⟩) (Below.setCell (p:=⟨b,5,I⟩) (Below.setCell (p:=⟨b,4,I⟩) (Below.setCell (p:=⟨b,3,I⟩) (Below.setCell (p:=⟨b,2,I⟩) (Below.setCell (p:=⟨b,1,I⟩) (Below.setCell (p:=⟨b,0,I⟩) h c _) c _) c _) c _) c _) c _) c _) c _) c _) c _) c _)
theorem Kp.aK {a:World} (h:Kp B rb a w) (c:B<=b) (c0 c1 c2 c3 d e f j l m n:Value):Kp B rb a (aK w b c0 c1 c2 c3 d e f j l m n):=
 (Kp.setCell (p:=⟨b,10,I⟩) (Kp.setCell (p:=⟨b,9,I⟩) (Kp.setCell (p:=⟨b,8,I⟩) (Kp.setCell (p:=⟨b,7,I⟩) (Kp.setCell (p:=⟨b,6,I⟩) (Kp.setCell (p:=⟨b,5,I⟩) (Kp.setCell (p:=⟨b,4,I⟩) (Kp.setCell (p:=⟨b,3,I⟩) (Kp.setCell (p:=⟨b,2,I⟩) (Kp.setCell (p:=⟨b,1,I⟩) (Kp.setCell (p:=⟨b,0,I⟩) h (.inl c) _) (.inl c) _) (.inl c) _) (.inl c) _) (.inl c) _) (.inl c) _) (.inl c) _) (.inl c) _) (.inl c) _) (.inl c) _) (.inl c) _)
theorem tT (d c e f:Value) (w:World):(Instr.field 86 (.agg #[d,c,e,f]) 1).run Tryz.prog w=.ok c w:=by kernel_rfl
theorem cy (d e c f:Value) (w:World):(Instr.field 86 (.agg #[d,e,c,f]) 2).run Tryz.prog w=.ok c w:=by kernel_rfl
theorem dU (d e f c:Value) (w:World):(Instr.field 86 (.agg #[d,e,f,c]) 3).run Tryz.prog w=.ok c w:=by kernel_rfl
theorem dx (d e f j c l m n o q r:Value) (w:World):(Instr.field 48 (.agg #[d,e,f,j,c,l,m,n,o,q,r]) 4).run Tryz.prog w=.ok c w:=by kernel_rfl
theorem aF {t:Tk} (h:Rd w rb tb cap t i k a) (q:Int):
 Calls Tryz.prog 15 #[.pointer (some ⟨rb,0,I⟩),.int .i64 q] w λd w'=>d=.returned (.agg (ae q (t.pos i) 0 0 ⟨#[]⟩ (J I 0 0)))/\Below (E (U w)) w w':=by
 have j:=h.l;have l:=tT;go_enter Tryz.func15,Tryz.ntmps15
 go_wp2_with (go_at_call 32;refine(dE (h.alloc _)).mono ?_;rintro d e ⟨rfl,c⟩;obtain⟨f,m⟩:=yg c;have n:E (U w)<E (U e):=(by have:=c.size;simp at this;omega))
 exact bodyPost_ret (v:=.agg (ae q (t.pos i) 0 0 ⟨#[]⟩ (J I 0 0))) (by simp[results,Tryz.results15,go_sem,f]) Q ⟨Q,Below.aK (((Below.refl _ _).alloc (lR _) _).trans (c.mono sQ)) (lR _) _ _ _ _ _ _ _ _ _ _ _⟩
theorem Rd.sj {t:Tk} (h:Rd w rb tb cap t i k a) {i':Nat} (c:i'<t.len):Rd (w.setCell ⟨rb,1,I⟩ (.int .i64 i')) rb tb cap t i' k a:=by
 refine⟨?_,h.row.fC (Below.heap_setCell _ _ _ _ (λd=>h.ne d.symm)),h.ne,h.ar,c⟩;rw[heap_setCell_same w rb 1 _ 58 _ h.dV];rfl
theorem Rd.yN {t:Tk} (h:Rd w rb tb cap t i k a) (k' d:Int):Rd ((w.setCell ⟨rb,2,I⟩ (.int .i64 k')).setCell ⟨rb,3,I⟩ (.int .i64 d)) rb tb cap t i k' d:=by
 have e:(w.setCell ⟨rb,2,I⟩ (.int .i64 k')).heap[rb]? =some (Ob #[J (some ⟨tb,0,I⟩) t.len cap,.int .i64 i,.int .i64 k',.int .i64 a] 58 (0,0)):=by
  rw[heap_setCell_same w rb 2 _ 58 _ h.dV];rfl
 refine⟨?_,(h.row.fC (Below.heap_setCell _ _ _ _ (λc=>h.ne c.symm))).fC (Below.heap_setCell _ _ _ _ (λc=>h.ne c.symm)),h.ne,h.ar,h.lt⟩;rw[heap_setCell_same _ rb 3 _ 58 _ e];rfl
theorem ik {t:Tk} (h:Rd w rb tb cap t i k a):
 Calls Tryz.prog 58 #[.pointer (some ⟨rb,0,I⟩)] w λc w'=>c=.returned (.tuple #[])/\(∃d e,d≠0/\Rd w' rb tb cap t i d e)/\Kp (E (U w)) rb w w':=by
 have l:=h.r0;have m:=h.r1;have n:=h.r2;have o:=h.r3;have q:=h.l;have r:=h.row.lt;have s:=h.fz 2;have u:=h.fz 3;have v:=h.ne;have x:=h.row.c1 i h.lt;have y:(i:Int)<(t.len:Int):=oH h.lt
 cases f:(k==0)
 ·go_enter Tryz.func58,Tryz.ntmps58
  go_wp2_with (go_at_call 16;refine(jy h).mono ?_;rintro c j ⟨rfl,rfl⟩)
  go_end0;exact⟨Q,⟨k,a,sU f,h⟩,Kp.refl _ _ _⟩
 ·go_enter Tryz.func58,Tryz.ntmps58
  go_wp2_with (go_at_call 16;refine(jy h).mono ?_;rintro c j ⟨rfl,rfl⟩)
  go_region;go_end0;exact⟨Q,⟨4,t.pos i,dC,(h.yN 4 (t.pos i)).drew⟩,((Kp.setCell (p:=⟨rb,3,I⟩) (Kp.setCell (p:=⟨rb,2,I⟩) (Kp.refl _ _ _) (.inr Q) _) (.inr Q) _)).drew⟩
end
abbrev VV:Type:=List (List Value)
abbrev OA:Type:=Option Addr
abbrev vN (x:Int):Value:=.int .i64 x
abbrev aS (b:Nat):Option Addr:=some ⟨b,0,I⟩
abbrev cl (w:World) (b o:Nat):Option Value:=w.cell? ⟨b,o,I⟩
abbrev Ce (w:World) (b:Nat) (c:Array Value):Prop:=∀o,w.cell? ⟨b,o,I⟩=c[o]?
abbrev nC (k p n m:Int) (s:ByteArray) (o:Option Addr) (l c:Nat):Array Value:=ae k p n m s (J o l c)
section
variable{s:ByteArray} {a k:Int} {cap i rb tb:Nat} {t:Tk} {w:World}
theorem du (c:t.Good) (j:i<t.len) (h:bS t i k 0 s=true):k=0/\i+1<t.len:=by
 simp[bS] at h;obtain⟨d,l,m,n⟩:=h;refine⟨d,?_⟩;rcases Nat.lt_or_ge (i+1) t.len with b|b
 ·exact b
 ·have e:i=t.len - 1:=oM;have f:=c.last;rw[<-e] at f;omega
theorem ia {q:Int} (e:t.Good) (m:i<t.len) (f:q≠0) (h:cj t i k 0 q=true):k=0/\i+1<t.len/\(t.kind i:Int)=q:=by
 simp[cj] at h;obtain⟨j,n,b⟩:=h;refine⟨j,?_,b⟩;rcases Nat.lt_or_ge (i+1) t.len with c|c
 ·exact c
 ·have l:i=t.len - 1:=oM;have d:=e.last;rw[<-l] at d;rw[d] at b;exact absurd b.symm f
structure Nx (w:World) (rb tb cap:Nat) (t:Tk) (i:Nat) (k:Int) (must:Prop) (w':World) (i':Nat) (k' a':Int):Prop where
 rd:Rd w' rb tb cap t i' k' a'
 kp:Kp (E (U w)) rb w w'
 le:i<=i'
 ok:k'=0->k=0
 go:must->k'=0->i<i'
structure lx (t:Tk) (s:ByteArray) (i:Nat) (k:Int) (b:Bool) (i':Nat):Prop where
 zA:b=bS t i k 0 s
 yes:b=true->i'=i+1/\k=0
 no:b=false->i'=i
theorem lx.le {b:Bool} {i':Nat} (h:lx t s i k b i'):i<=i':=by
 cases b
 ·rw[h.no rfl];exact lR _
 ·rw[(h.yes Q).1];omega
theorem aU (h:Rd w rb tb cap t i k a) (s:ByteArray):
 Calls Tryz.prog 36 #[.pointer (aS rb),.string s] w λd j=>∃l m,d=.returned (.bool l)/\lx t s i k l m/\Rd j rb tb cap t m k a/\Kp (E (U w)) rb w j:=by
 have u:(i:Int)<(t.len:Int):=oH h.lt;have v:(t.len:Int)<=6001:=oH h.ar.bj
 cases e:bS t i k 0 s
 ·have f:Hid (bS t i k 0 s=false):=e;go_enter Tryz.func36,Tryz.ntmps36
  go_wp2_with (go_at_call 35;refine(aX h 0 oM s).mono ?_;rintro d o ⟨rfl,b⟩)
  go_ret;exact⟨false,i,Q,⟨f.out.symm,sQ,λ_=>rfl⟩,h.below b,Kp.al b⟩
 ·have f:Hid (bS t i k 0 s=true):=e;obtain⟨n,q⟩:=du h.ar h.lt e;have r:Hid (k=0):=n;clear n;go_enter Tryz.func36,Tryz.ntmps36
  go_wp2_with (go_at_call 35;refine(aX h 0 oM s).mono ?_;rintro d o ⟨rfl,b⟩;have c:=h.below b;have x:=c.r1;have y:=c.l;have z:=c.fz 1)
  go_ret;refine⟨true,i+1,Q,⟨f.out.symm,λ_=>⟨Q,r.out⟩,sQ⟩,?_,?_⟩
  ·exact c.sj q
  ·exact Kp.setCell (p:=⟨rb,1,I⟩) (Kp.al b) (.inr Q) _
theorem aI (h:Rd w rb tb cap t i k a) (s:ByteArray):
 Calls Tryz.prog 33 #[.pointer (aS rb),.string s] w λb m=>b=.returned (.tuple #[])/\∃n o p,Nx w rb tb cap t i k True m n o p:=by
 go_enter Tryz.func33,Tryz.ntmps33
 go_wp2_with (first|(go_at_call 36;refine(aU h s).mono ?_;rintro b z ⟨d,e,rfl,f,j,c⟩)|(go_at_call 58;refine(ik j).mono ?_;rintro b A ⟨rfl,⟨q,r,l,u⟩,v⟩))
 ·go_end0;exact⟨Q,e,q,r,u,c.trans (v.mono c.size),f.le,λb=>absurd b l,λ_ b=>absurd b l⟩
 ·go_end0;have x:d=true:=sU ‹(!d)=false›;obtain⟨B,y⟩:=f.yes x;exact⟨Q,e,k,a,j,c,oM,λ_=>y,λ_ _=>by omega⟩
theorem cD (h:Rd w rb tb cap t i k a):
 Calls Tryz.prog 34 #[.pointer (aS rb)] w λb n=>∃s,b=.returned (.string s)/\s.size<=6000/\∃o j q,Nx w rb tb cap t i k True n o j q/\(j=0->hJ s):=by
 have D:(i:Int)<(t.len:Int):=oH h.lt;have F:(t.len:Int)<=6001:=oH h.ar.bj;have G:=cy
 cases e:cj t i k 0 2
 ·have r:Hid (cj t i k 0 2=false):=e;go_enter Tryz.func34,Tryz.ntmps34
  go_wp2_with (first|(go_at_call 17;refine(bC h 0 oM 2).mono ?_;rintro b u ⟨rfl,c⟩)|(go_at_call 58;refine(ik (h.below c)).mono ?_;rintro b v ⟨rfl,⟨x,y,f,d⟩,z⟩))
  go_ret;exact⟨⟨#[]⟩,Q,dC,i,x,y,⟨d,(Kp.al c).trans (z.mono c.size),lR _,λb=>absurd b f,λ_ b=>absurd b f⟩,λb=>absurd b f⟩
 ·have r:Hid (cj t i k 0 2=true):=e;obtain⟨l,A,B⟩:=ia h.ar h.lt dC e;have H:Hid (k=0):=l;have C:Hid (t.kind i=2):=by show t.kind i=2;omega
  clear l B;go_enter Tryz.func34,Tryz.ntmps34
  go_wp2_with (first|(go_at_call 17;refine(bC h 0 oM 2).mono ?_;rintro b u ⟨rfl,c⟩)|(go_at_call 32;refine(dE (h.below c)).mono ?_;rintro b v ⟨rfl,m⟩;have d:=(h.below c).below m;have K:=d.r1;have L:=d.l;have M:=d.fz 1))
  go_ret;exact⟨t.text i,Q,h.ar.pJ i,i+1,k,a,⟨d.sj A,Kp.setCell (p:=⟨rb,1,I⟩) (Kp.al (c.trans (m.mono c.size))) (.inr Q) _,oM,λb=>b,λ_ _=>by omega⟩,λ_=>h.ar.name i C.out⟩
end
section
variable{name:ByteArray} {a a2 aj k k' k2 kind kj m n pos:Int} {P:List Int->Prop} {c cs xs:List Value} {N base base' cap i i' i2 j r r' rb size tb:Nat} {S S':Nat->Prop} {g g' must:Prop} {t:Tk} {e:TypeId} {vs:VV} {kv v:Value} {w w' w2 wr:World}
def fL:List (List UInt8)->List UInt8
 |[]=>[]
 |[n]=>n
 |n::m::r=>n++58::58::fL (m::r)
def cu (gK:Nat) (s:ByteArray):Prop:=∃ns,ns≠[]/\O ns<=gK/\(∀n∈ns,n≠[]/\(58:UInt8)∉n)/\s.toList=fL ns
def cx (x:Int):Prop:=13<=x/\x<=18
def fJ (kind n:Int) (len:Nat):Int:=if kind=8/\(len:Int)=n+3 then 108 else if kind=108 then -108 else kind
def lenOf:Value->Nat
 |J _ l _=>l
 |_=>0
def az:List Value->Int
 |.int _ k::_::.int _ n::_::_::kv::_=>fJ k n (lenOf kv)
 |_=> -1
structure Gr (kind n:Int) (name:ByteArray) (ks:List Int):Prop where
 prog:kind=0->∀x∈ks,x=1
 mod:kind=1->∀x∈ks,x=2\/x=3\/x=6\/x=7\/x=108
 use:kind=2->cu 2 name/\¬cu 1 name
 data:kind=3->∃vs,ks=9::vs/\∀x∈vs,x=4
 variant:kind=4->∀x∈ks,x=5
 field:kind=5->∃x,ks=[x]/\cx x
 rZ:kind=6->∀x∈ks,x=8
 impl:kind=7->cu 2 name/\∃x fs,ks=9::x::fs/\cx x/\∀f∈fs,f=108
 fn:kind=8->∃ps x rest,ks=9::(ps++x::rest)/\(O ps:Int)=n/\(∀p∈ps,p=12)/\cx x/\O rest<=1
 cF:kind=9->O ks<=6100/\∀x∈ks,x=10\/x=11
 xT:kind=10->∀x∈ks,x=19
 xS:kind=11->∀x∈ks,x=19\/x=18
 param:kind=12->∃x,ks=[x]/\cx x
 tuple:kind=15->∀x∈ks,cx x
 ref:kind=16->(n=0\/n=1)/\∃x,ks=[x]/\cx x
 zB:kind=17->ks≠[]/\∀x∈ks,cx x
 path:kind=18->cu 2 name/\∃ls ts,ks=ls++ts/\(∀x∈ls,x=19)/\∀x∈ts,cx x
theorem Gr.free {ks:List Int} (h:20<=kind\/kind=13\/kind=14\/kind=19):Gr kind n name ks:=by
 constructor<;>(intro e;exact absurd h oM)
def isNode (S:Nat->Prop) (g:Prop):Nat->World->List Value->Prop
 |0,_,_=>False
 |h+1,w,cs=>∃(kind pos n m:Int) (name:ByteArray) (kv:Value) (vs:VV),cs=(ae kind pos n m name kv).toList/\name.size<=20000/\(0<=pos/\pos<=7000)/\O vs<=20000/\
  w.ownsRow 0 48 11 kv (O vs) vs.flatten/\(∀b,kv.ownBlock=some b->S b)/\(∀x∈vs,isNode S g h w x)/\(g->Gr kind n name (vs.map az))
def aq (S:Nat->Prop) (w w':World):Prop:=∀b,S b->b<E (U w)->w'.heap[b]? =w.heap[b]?
theorem aq.mono (h:aq S w w') (d:∀b,S' b->S b):aq S' w w':=λb f l=>h b (d b f) l
theorem aq.trans {a b c:World} (h:aq S a b) (l:aq S b c) (p:E (U a)<=E (U b)):aq S a c:=λd f o=>(l d f oM).trans (h d f o)
theorem aq.alloc (S:Nat->Prop) (w:World) (o:Obj):aq S w (w.alloc o):=λ_ _ b=>Below.heap_alloc _ _ _ b
theorem aq.setCell (w:World) (p:Addr) (u:Value) (h:¬S p.block):aq S w (w.setCell p u):=λ_ b _=>Below.heap_setCell _ _ _ _ (λe=>h (e▸b))
theorem aq.drew (S:Nat->Prop) (w:World):aq S w w.drew:=λ_ _ _=>rfl
theorem aq.kp (h:Kp (E (U w)) rb w w') (b:¬S rb):aq S w w':=λd f l=>h.block d l (λe=>b (e▸f))
theorem aq.below (h:Below (E (U w)) w w'):aq S w w':=λb _ d=>h.block b d
theorem aq.grown {d:Option Nat} (h:w.grownBy w' d) (f:∀b,d=some b->¬S b):aq S w w':=λb l o=>h.block b o (λe=>f b e.symm l)
theorem ah {n:Nat} (h:w.ownsRow base e size v n xs) (f:∀b,v.ownBlock=some b->b<E (U w)->w'.heap[b]? =w.heap[b]?):w'.ownsRow base e size v n xs:=by
 obtain⟨l,d⟩:=h;refine⟨l,?_⟩;rcases d with d|⟨g,cap,cur,hv,hbg,hg,rest⟩
 ·exact .inl d
 ·have o:g<E (U w):=(gE hg).1;exact .inr ⟨g,cap,cur,hv,hbg,by rw[f g (by rw[hv];rfl) o];exact hg,rest⟩
theorem dJ {n:Nat} (h:w.ownsRow base e size v n xs) (f:base'<=base):w.ownsRow base' e size v n xs:=by
 obtain⟨d,b⟩:=h;refine⟨d,?_⟩;rcases b with b|⟨g,cap,cur,hv,hbg,rest⟩
 ·exact .inl b
 ·exact .inr ⟨g,cap,cur,hv,oM,rest⟩
theorem isNode.frame (b:aq S w w'):(h:Nat)->(cs:List Value)->isNode S g h w cs->isNode S g h w' cs
 |0,_,hn=>hn
 |h+1,_,⟨kind,pos,n,m,name,kv,vs,h1,h2,h3,h3',h4,h5,h6,h7⟩=>
  ⟨kind,pos,n,m,name,kv,vs,h1,h2,h3,h3',ah h4 (λd l o=>b d (h5 d l) o),h5,λf p=>isNode.frame b h f (h6 f p),h7⟩
theorem isNode.up:(h:Nat)->(cs:List Value)->isNode S g h w cs->isNode S g (h+1) w cs
 |0,_,hn=>absurd hn (λh=>h)
 |h+1,_,⟨kind,pos,n,m,name,kv,vs,h1,h2,h3,h3',h4,h5,h6,h7⟩=>
  ⟨kind,pos,n,m,name,kv,vs,h1,h2,h3,h3',h4,h5,λb d=>isNode.up h b (h6 b d),h7⟩
theorem isNode.le {h:Nat} (b:isNode S g h w cs):(h':Nat)->h<=h'->isNode S g h' w cs
 |0,hl=>by
  obtain rfl:h=0:=oM;exact b
 |h'+1,hl=>by
  rcases Nat.lt_or_ge h' h with d|hge
  ·obtain rfl:h=h'+1:=oM;exact b
  ·exact isNode.up h' cs (isNode.le b h' hge)
theorem isNode.weaken (d:∀b,S b->S' b) (f:g'->g):(h:Nat)->(cs:List Value)->isNode S g h w cs->isNode S' g' h w cs
 |0,_,hn=>hn
 |h+1,_,⟨kind,pos,n,m,name,kv,vs,h1,h2,h3,h3',h4,h5,h6,h7⟩=>
  ⟨kind,pos,n,m,name,kv,vs,h1,h2,h3,h3',h4,λb o=>d b (h5 b o),λl p=>isNode.weaken d f h l (h6 l p),λq=>h7 (f q)⟩
def bf (base:Nat) (g:Prop) (w:World) (cs:List Value):Prop:=∃h,isNode (λb=>base<=b) g h w cs
structure Kids (base:Nat) (g:Prop) (w:World) (kv:Value) (vs:VV):Prop where
 row:w.ownsRow base 48 11 kv (O vs) vs.flatten
 all:∃h,∀x∈vs,isNode (λb=>base<=b/\kv.ownBlock≠some b) g h w x
theorem Kids.nil (base:Nat) (g:Prop) (w:World):Kids base g w (J I 0 0) []:=⟨World.ownsRow_nil _ _ _ _,0,λd b=>by cases b⟩
theorem Kids.same (h:Kids base g w kv vs) (f:aq (λb=>base<=b) w w'):Kids base g w' kv vs:=by
 obtain⟨l,n,p⟩:=h;exact⟨ah l (λb d q=>f b (l.lt b d).1 q),n,λo s=>isNode.frame (f.mono (λb d=>d.1)) n o (p o s)⟩
theorem Kids.weaken (h:Kids base g w kv vs) (d:base'<=base) (f:g'->g):Kids base' g' w kv vs:=by
 obtain⟨l,n,o⟩:=h;exact⟨dJ l d,n,λb p=>isNode.weaken (λs q=>⟨oM,q.2⟩) f n b (o b p)⟩
theorem bf.same (h:bf base g w cs) (d:aq (λb=>base<=b) w w'):bf base g w' cs:=by
 obtain⟨n,f⟩:=h;exact⟨n,isNode.frame d n cs f⟩
theorem bf.weaken (h:bf base g w cs) (f:base'<=base) (b:g'->g):bf base' g' w cs:=by
 obtain⟨n,d⟩:=h;exact⟨n,isNode.weaken (λl o=>by omega) b n cs d⟩
theorem Kids.node (h:Kids base g w kv vs) (hl:O vs<=20000) (o:name.size<=20000) (p:0<=pos/\pos<=7000) (q:g->Gr kind n name (vs.map az)):
 bf base g w (ae kind pos n m name kv).toList:=by
 obtain⟨f,k,s⟩:=h;exact⟨k+1,kind,pos,n,m,name,kv,vs,Q,o,p,hl,dJ f (zL _),λl d=>(f.lt l d).1,λb u=>isNode.weaken (λl d=>d.1) (λb=>b) k b (s b u),q⟩
theorem Kids.snoc {l:Value} (h:Kids base g w kv vs) (A:bf base' g w c) (o:base<=base') (B:∀b,kv.ownBlock=some b->b<base') (W:base<=E (U w))
 (C:w'.ownsRow base 48 11 l (O vs+1) (vs.flatten++c)) (D:w.grownBy w' kv.ownBlock) (F:l.ownBlock=kv.ownBlock\/l.ownBlock=some (E (U w))):Kids base g w' l (vs++[c]):=by
  obtain⟨X,n,G⟩:=h;obtain⟨k,H⟩:=A
  have s:∀(h:Nat) (d:List Value) (S:Nat->Prop),isNode S g h w d->isNode (λb=>S b/\b<E (U w)) g h w d:=by
   intro h;induction h with
   |zero=>intro d S f;exact f
   |succ h K=>
    rintro d S ⟨kind,pos,n,m,name,kv,vs,p,q,u,L,x,M,R,T⟩;exact⟨kind,pos,n,m,name,kv,vs,p,q,u,L,x,λb o=>⟨M b o,(x.lt b o).2⟩,λd f=>K d S (R d f),T⟩
  have y:aq (λb=>(base<=b/\kv.ownBlock≠some b)/\b<E (U w)) w w':=aq.grown D (λb e o=>o.1.2 e);refine⟨sU C,max n k,λd f=>?_⟩
  have z:∀b,(base<=b/\kv.ownBlock≠some b)/\b<E (U w)->base<=b/\l.ownBlock≠some b:=by
   rintro b ⟨⟨p,q⟩,u⟩;refine⟨p,?_⟩;rcases F with e|e
   ·rw[e];exact q
   ·rw[e];intro V;simp at V;omega
  rcases List.mem_append.1 f with f|f
  ·exact isNode.weaken z (λd=>d) _ _ (isNode.frame y _ _ (s _ _ _ (isNode.le (G d f) _ (Nat.le_max_left _ _))))
  ·obtain rfl:d=c:=sU f;refine isNode.weaken z (λd=>d) _ _ (isNode.frame y _ _ (s _ _ _ (isNode.weaken (λb Y=>⟨oM,λe=>?_⟩) (λd=>d) _ _ (isNode.le H _ (Nat.le_max_right _ _)))));have:=B b e;omega
theorem Kids.made (vs:VV) (cs:Array Value) (l:cs.toList=vs.flatten) (o:base<=E (U w)) (hl:O vs<=20000) (p:∀x∈vs,O x=11) (q:∀x∈vs,bf base g w x):
 Kids base g (w.alloc (Ob cs 48)) (J (aS (E (U w))) (O vs) (O vs)) vs:=by
 have A:O vs.flatten=O vs*11:=by
  clear l q hl;induction vs with
  |nil=>rfl
  |cons x r f=>simp only[List.flatten_cons,List.length_append,List.length_cons];rw[f (λs D=>p s (List.mem_cons_of_mem _ D)),p x (List.mem_cons_self ..)];omega
 have u:=World.ownsRow_lit (base:=base) (e:=48) (size:=11) w cs (O vs) o (by unfold maxLen;omega) (by rw[<-Array.length_toList,l,A]);rw[l] at u;refine⟨u,?_⟩
 have B:∀(h:Nat) (x:List Value),isNode (λd=>base<=d) g h w x->isNode (λd=>base<=d/\(Value.slice (aS (E (U w))) (O vs) (O vs)).ownBlock≠some d) g h w x:=by
  intro h;induction h with
  |zero=>intro x b;exact b
  |succ h f=>
   rintro x ⟨kind,pos,n,m,name,kv,F,y,z,G,H,C,K,L,M⟩;refine⟨kind,pos,n,m,name,kv,F,y,z,G,H,C,λd o=>⟨K d o,?_⟩,λx b=>f x (L x b),M⟩;have:=(C.lt d o).2;simp[Value.ownBlock];omega
 have R:∃h,∀x∈vs,isNode (λd=>base<=d) g h w x:=by
  clear l hl p A u B;induction vs with
  |nil=>exact⟨0,λx b=>by cases b⟩
  |cons s r f=>
   obtain⟨y,T⟩:=f (λx b=>q x (List.mem_cons_of_mem _ b));obtain⟨z,a2⟩:=q s (List.mem_cons_self ..);refine⟨max y z,λx b=>?_⟩;rcases List.mem_cons.1 b with rfl|b
   ·exact isNode.le a2 _ (Nat.le_max_right _ _)
   ·exact isNode.le (T x b) _ (Nat.le_max_left _ _)
 obtain⟨h,a⟩:=R;exact⟨h,λx b=>isNode.frame (aq.alloc _ _ _) h x (B h x (a x b))⟩
theorem Kids.shape (h:Kids base g w kv vs):∃f l,kv=J f (O vs) l:=by
 rcases h.row.2 with⟨d,o⟩|⟨b,cap,cur,d,_⟩
 ·exact⟨I,0,by rw[d,o]⟩
 ·exact⟨_,_,d⟩
def Bd (N:Nat) (t:Tk) (i:Nat) (k:Int) (r:Nat):Prop:=(k=0->(t.len - i)*64+r<=N)/\r<=N
theorem Bd.down (h:Bd (N+1) t i k r) (d:i<=i') (b:k'=0->k=0) (f:r'<r):Bd N t i' k' r':=by
 refine⟨λe=>?_,oH h.2⟩;have:=h.1 (b e);have:(t.len - i')*64<=(t.len - i)*64:=Nat.mul_le_mul_right _ oM;omega
theorem Bd.prog (h:Bd (N+1) t i k r) (b:k=0) (d:i<i') (hl:i<t.len) (f:r'<64):Bd N t i' k' r':=by
 have:=h.1 b;have l:(t.len - i'+1)*64<=(t.len - i)*64:=Nat.mul_le_mul_right _ oM;exact⟨λ_=>by omega,oM⟩
def eI (w:World) (rb tb cap:Nat) (t:Tk) (i:Nat) (k:Int) (must:Prop) (C:Int->Prop) (e:Ending) (w':World):Prop:=
 ∃(kind pos n m:Int) (name:ByteArray) (ko:OA) (kl kc:Nat) (i':Nat) (k' a':Int),e=.returned (.agg (ae kind pos n m name (J ko kl kc)))/\Nx w rb tb cap t i k must w' i' k' a'/\bf (E (U w)) (k'=0) w' (ae kind pos n m name (J ko kl kc)).toList/\(k'=0->C (az (ae kind pos n m name (J ko kl kc)).toList))
def uj (w:World) (rb tb cap:Nat) (t:Tk) (i:Nat) (k:Int) (must:Prop) (C:List Int->Prop) (e:Ending) (w':World):Prop:=
 ∃(ao:OA) (cp:Nat) (vs:VV) (i':Nat) (k' a':Int),e=.returned (J ao (O vs) cp)/\Nx w rb tb cap t i k must w' i' k' a'/\Kids (E (U w)) (k'=0) w' (J ao (O vs) cp) vs/\O vs<=6002/\(k'=0->C (vs.map az))
structure Lp (w:World) (base rb tb cap:Nat) (t:Tk) (i:Nat) (k:Int) (P:List Int->Prop) (wr:World) (v:Value) (vs:VV) (j:Nat) (kj aj:Int):Prop where
 rd:Rd wr rb tb cap t j kj aj
 kids:Kids base (kj=0) wr v vs
 kp:Kp (E (U w)) rb w wr
 hb:E (U w)<=base
 dB:base<=E (U wr)
 le:i<=j
 ok:kj=0->k=0
 bj:kj=0->O vs<=j
 gK:O vs<=6002
 all:kj=0->P (vs.map az)
def ml (t:Tk) (j:Nat) (kj:Int):Nat:=2*(t.len - j)+if kj=0 then 1 else 0
theorem bN {j':Nat} {b:Int} (f:j<t.len) (h:j<=j') (d:b=0->j<j'):ml t j' b<ml t j 0:=by
 unfold ml;by_cases e:b=0
 ·have:=d e;simp[e];omega
 ·simp[e];omega
theorem Rd.same (h:Rd w rb tb cap t i k a) (b:w'.heap[rb]? =w.heap[rb]?) (d:w'.heap[tb]? =w.heap[tb]?):Rd w' rb tb cap t i k a:=
 ⟨by rw[b];exact h.dV,h.row.fC d,h.ne,h.ar,h.lt⟩
theorem Rd.grown (h:Rd w rb tb cap t i k a) {b:Option Nat} (d:w.grownBy w' b) (f:b≠some rb) (l:b≠some tb):Rd w' rb tb cap t i k a:=
 h.same (d.block rb h.l (λe=>f e.symm)) (d.block tb h.row.lt (λe=>l e.symm))
theorem Rd.setCell (h:Rd w rb tb cap t i k a) {p:Addr} (b:p.block≠rb) (d:p.block≠tb) (u:Value):Rd (w.setCell p u) rb tb cap t i k a:=
 h.same (Below.heap_setCell _ _ _ _ (λe=>b e.symm)) (Below.heap_setCell _ _ _ _ (λe=>d e.symm))
theorem jQ (w:World) (kind pos n m:Int) (name:ByteArray) (kv:Value) (t:TypeId):∀j b,(ae kind pos n m name kv).toList[j]? =some b->(w.alloc (Ob (ae kind pos n m name kv) t)).cell? ((⟨E (U w),0,I⟩:Addr).add j)=some b:=by
 intro j b d;have f:(⟨E (U w),0,I⟩:Addr).add j=⟨E (U w),j,I⟩:=by unfold Addr.add;split<;>simp_all
 rw[f,cell_of_row _ (E (U w)) j (ae kind pos n m name kv) t (0,0) (heap_alloc_new w _)];simpa using d
theorem oa {ko:OA} {kl kc:Nat}:∀b∈(ae kind pos n m name (J ko kl kc)).toList,b.oneCell'=true:=by
 intro b d;simp at d;rcases d with rfl|rfl|rfl|rfl|rfl|rfl|rfl|rfl|rfl|rfl<;>rfl
theorem Lp.snoc (h:Lp w base rb tb cap t i k P wr v vs j kj aj) (M:rb<base) (R:tb<base) (q:kj=0)
 (d:Nx wr rb tb cap t j kj must w2 i2 k2 a2) (x:bf (E (U wr)) (k2=0) w2 c) (y:k2=0->P (vs.map az)->P (vs.map az++[az c])) (z:k2=0->j<i2)
 {o:Obj} {s:World} {l:Value} (A:s.ownsRow base 48 11 l (O vs+1) (vs.flatten++c)) (p:(w2.alloc o).grownBy s v.ownBlock) (B:l.ownBlock=v.ownBlock\/l.ownBlock=some (E (U (w2.alloc o)))):
  Lp w base rb tb cap t i k P s l (vs++[c]) i2 k2 a2:=by
  have T:=d.kp.size;have C:=h.dB;have D:aq (λb=>base<=b) wr w2:=aq.kp d.kp oM;have F:aq (λb=>base<=b) w2 (w2.alloc o):=aq.alloc _ _ _;have G:Kids base (k2=0) (w2.alloc o) v vs:=((h.kids.weaken (lR _) (λ_=>q)).same D).same F;have H:∀b,v.ownBlock=some b->b<E (U wr):=λb f=>(h.kids.row.lt b f).2;have u:∀b,v.ownBlock=some b->base<=b:=λb f=>(h.kids.row.lt b f).1;refine⟨?_,G.snoc (base':=E (U wr)) (x.same (aq.alloc _ _ _)) C H (by simp;omega) A p B,?_,h.hb,?_,oI h.le d.le,λe=>h.ok (d.ok e),λe=>?_,?_,λe=>?_⟩
  ·exact(d.rd.alloc o).grown p (λe=>oH (u rb e)) (λe=>oH (u tb e))
  ·exact((h.kp.trans (d.kp.mono h.kp.size)).alloc (oH h.hb) o).grown p (by simp;have:=h.hb;omega) (λb f=>oI (u b f) h.hb)
  ·have:=p.size;simp at this;omega
  ·have K:=h.bj q;have L:=z e;simp;omega
  ·have K:=h.bj q;have L:=h.rd.lt;have V:=h.rd.ar.bj;simp;omega
  ·rw[List.map_append];exact y e (h.all (d.ok e))
theorem Lp.step (h:Lp w base rb tb cap t i k P wr v vs j kj aj) (d:rb<base)
 (b:Nx wr rb tb cap t j kj must w2 i2 k2 a2):Lp w base rb tb cap t i k P w2 v vs i2 k2 a2:=
  ⟨b.rd,(h.kids.weaken (lR _) b.ok).same (aq.kp b.kp oM),h.kp.trans (b.kp.mono h.kp.size),h.hb,oI h.dB b.kp.size,oI h.le b.le,λe=>h.ok (b.ok e),λe=>oI (h.bj (b.ok e)) b.le,h.gK,λe=>h.all (b.ok e)⟩
theorem Lp.put (h:Lp w base rb tb cap t i k P wr v vs j kj aj) (f:rb<E (U w)) (l:tb<E (U w))
 {b:Nat} (d:E (U w)<=b) (q:b<base) (o:Nat) (u:Value):Lp w base rb tb cap t i k P (wr.setCell ⟨b,o,I⟩ u) v vs j kj aj:=
  ⟨h.rd.setCell (p:=⟨b,o,I⟩) (by show b≠rb;omega) (by show b≠tb;omega) u,h.kids.same (aq.setCell _ ⟨b,o,I⟩ _ (by show ¬base<=b;omega)),h.kp.setCell (p:=⟨b,o,I⟩) (.inl d) u,h.hb,by have:=h.dB;simpa using this,h.le,h.ok,h.bj,h.gK,h.all⟩
theorem lx.nx {s:ByteArray} {b:Bool} (d:lx t s i k b i') (h:Rd w' rb tb cap t i' k a) (f:Kp (E (U w)) rb w w'):Nx w rb tb cap t i k (b=true) w' i' k a:=
 ⟨h,f,d.le,λe=>e,λe _=>oH (d.yes e).1⟩
theorem Nx.below (h:Rd w rb tb cap t i k a) (b:Below (E (U w)) w w'):Nx w rb tb cap t i k False w' i k a:=
 ⟨h.below b,Kp.al b,lR _,λe=>e,λe _=>absurd e (λd=>d)⟩
end
section
variable{aj k kj:Int} {P:List Int->Prop} {cap i j rb tb:Nat} {t:Tk} {w wr:World}
theorem tK:(Tryz.prog.info? 48).map (λi=>(i.zero,i.size,i.bytes))=some (some (.agg (ae 0 0 0 0 ⟨#[]⟩ (J I 0 0))),11,160):=by kernel_rfl
theorem Lp.post {v:Value} {vs:VV} (h:Lp w (E (U w)) rb tb cap t i k P wr v vs j kj aj) {a:Prop} (b:a->kj=0->i<j):
 uj w rb tb cap t i k a P (.returned v) wr:=by
 obtain⟨c,d,rfl⟩:=h.kids.shape;exact⟨c,d,vs,j,kj,aj,Q,⟨h.rd,h.kp,h.le,h.ok,b⟩,h.kids,h.gK,h.all⟩
theorem Lp.start {base:Nat} (a:Rd wr rb tb cap t j kj aj) (b:Kp (E (U w)) rb w wr) (c:E (U w)<=base) (d:base<=E (U wr)) (e:i<=j) (f:kj=0->k=0) (l:P []):
 Lp w base rb tb cap t i k P wr (J I 0 0) [] j kj aj:=⟨a,Kids.nil _ _ _,b,c,d,e,f,λ_=>zL _,dC,λ_=>l⟩
theorem aO {C:Int->Prop} {ks:List Int} {b:Int} (h:∀x∈ks,C x) (c:C b):∀x∈ks++[b],C x:=by
 intro x a;rcases List.mem_append.1 a with a|a
 ·exact h x a
 ·obtain rfl:x=b:=sU a;exact c
end
section
variable{c:Array Value} {a a' k k':Int} {b cap i i' rb tb:Nat} {must:Prop} {t:Tk} {w w':World}
theorem pq (d:List (List UInt8)) (m:List UInt8) (h:d≠[]):fL (d++[m])=fL d++58::58::m:=by
 induction d with
 |nil=>exact absurd Q h
 |cons a e f=>
  cases e with
  |nil=>rfl
  |cons b e=>show a++58::58::fL (b::e++[m])=(a++58::58::fL (b::e))++_;rw[f sQ];simp
theorem fO (a b:ByteArray):(a++b).toList=a.toList++b.toList:=by
 rw[Lib.toList_data,Lib.toList_data,Lib.toList_data];simp[ByteArray.data_append]
theorem fN (a b:ByteArray):(a++b).size=a.size+b.size:=sQ
structure vw (w:World) (rb tb cap:Nat) (t:Tk) (i:Nat) (k:Int) (gK:Nat) (wr:World) (s:ByteArray) (n:Nat) (j:Nat) (kj aj:Int):Prop where
 nx:Nx w rb tb cap t i k True wr j kj aj
 le:n<=gK
 size:s.size<=6002*n
 ok:kj=0->∃ns,ns≠[]/\O ns=n/\(∀n∈ns,n≠[]/\(58:UInt8)∉n)/\s.toList=fL ns
theorem jw (h:Rd w rb tb cap t i k a) (o:Nat) (ad:1<=o) (az:o<=3):
 Calls Tryz.prog 74 #[.pointer (aS rb),vN o] w λd w'=>∃m,d=.returned (.string m)/\m.size<=20000/\∃i' k' a',Nx w rb tb cap t i k True w' i' k' a'/\(k'=0->cu o m):=by
 have aA:(t.len:Int)<=6001:=oH h.ar.bj;go_enter Tryz.func74,Tryz.ntmps74
 go_wp2_with (go_at_call 34;refine(cD h).mono ?_;rintro d aB ⟨R,rfl,aC,S,T,ae,af,ag⟩)
 go_loopg [5,6] (ml t S T) (λg ah ai wr=>∃(m:ByteArray) (r j:Nat) (kj aj:Int),g=ml t j kj/\ah=.string m/\ai=vN r/\vw w rb tb cap t i k o wr m r j kj aj)
 case atStart=>exact⟨R,1,S,T,ae,Q,Q,Q,af,ad,oM,λd=>⟨[R.toList],sQ,Q,by simpa[hJ] using ag d,Q⟩⟩
 case round=>
  obtain⟨m,r,j,kj,aj,V,rfl,rfl,e⟩:=hrel;have ak:Hid (gk=ml t j kj):=V;clear V;have X:=e.nx.rd.lt;have aD:=e.le;have aE:=e.size
  have out:∀al,al=wr->∃s,Ending.returned (.string m)=.returned (.string s)/\s.size<=20000/\∃i' k' a',Nx w rb tb cap t i k True wr i' k' a'/\(k'=0->cu o s):=λ_ _=>
   ⟨m,Q,oM,j,kj,aj,e.nx,λd=>by obtain⟨y,F,Y,G,n⟩:=e.ok d;exact⟨y,F,oM,G,n⟩⟩
  cases ao:(kj==0)
  ·go_wp2_with (go_at_call 16;refine(jy e.nx.rd).mono ?_;rintro d z ⟨rfl,rfl⟩)
   go_ret;exact out _ Q
  ·have Z:Hid (kj=0):=by show kj=0;simpa using ao
   cases ap:bS t j kj 0 ⟨#[58,58]⟩
   ·go_wp2_with (first|(go_at_call 16;refine(jy e.nx.rd).mono ?_;rintro d z ⟨rfl,rfl⟩)|(go_at_call 35;refine(aX e.nx.rd 0 oM _).mono ?_;rintro d H ⟨rfl,f⟩))
    go_ret;obtain⟨s,K,L,i',k',a',l,M⟩:=out _ Q;refine⟨s,K,L,i',k',a',⟨?_,?_,l.le,l.ok,l.go⟩,M⟩
    ·exact l.rd.below f
    ·exact l.kp.trans ((Kp.al f).mono l.kp.size)
   ·have aq:=(du h.ar X ap).2
    cases aF:cj t j kj 1 2
    ·go_wp2_with (first|(go_at_call 16;refine(jy e.nx.rd).mono ?_;rintro d z ⟨rfl,rfl⟩)|(go_at_call 35;refine(aX e.nx.rd 0 oM _).mono ?_;rintro d H ⟨rfl,f⟩)|(go_at_call 17;refine(bC (e.nx.rd.below f) 1 oM 2).mono ?_;rintro d N ⟨rfl,q⟩))
     go_ret;obtain⟨s,K,L,i',k',a',l,M⟩:=out _ Q;refine⟨s,K,L,i',k',a',⟨?_,?_,l.le,l.ok,l.go⟩,M⟩
     ·exact(l.rd.below f).below q
     ·exact l.kp.trans ((Kp.al (f.trans (q.mono f.size))).mono l.kp.size)
    ·by_cases ar:r=o
     ·subst ar;go_wp2_with (first|(go_at_call 16;refine(jy e.nx.rd).mono ?_;rintro d z ⟨rfl,rfl⟩)|(go_at_call 35;refine(aX e.nx.rd 0 oM _).mono ?_;rintro d H ⟨rfl,f⟩)|(go_at_call 17;refine(bC (e.nx.rd.below f) 1 oM 2).mono ?_;rintro d N ⟨rfl,q⟩;have n:=(e.nx.rd.below f).below q)|(go_at_call 58;refine(ik n).mono ?_;rintro d aa ⟨rfl,⟨v,A,P,au⟩,av⟩))
      go_ret;refine⟨⟨#[]⟩,Q,dC,j,v,A,⟨au,?_,e.nx.le,λd=>absurd d P,λ_ d=>absurd d P⟩,λd=>absurd d P⟩;have B:=f.trans (q.mono f.size);exact e.nx.kp.trans (((Kp.al B).trans (av.mono B.size)).mono e.nx.kp.size)
     ·have aG:((r:Int)==(o:Int))=false:=by simp;omega
      go_wp2_with (first|(go_at_call 16;refine(jy e.nx.rd).mono ?_;rintro d z ⟨rfl,rfl⟩)|(go_at_call 35;refine(aX e.nx.rd 0 oM _).mono ?_;rintro d H ⟨rfl,f⟩)|(go_at_call 17;refine(bC (e.nx.rd.below f) 1 oM 2).mono ?_;rintro d N ⟨rfl,q⟩;have n:=(e.nx.rd.below f).below q;have aH:=n.r1;have aI:=n.l;have aJ:=n.fz 1)|(go_at_call 34;refine(cD (n.sj aq)).mono ?_;rintro d aa ⟨C,rfl,aK,D,v,A,u,aw⟩))
      have B:=f.trans (q.mono f.size);have ab:Kp (E (U w)) rb w (N.setCell ⟨rb,1,I⟩ (vN (j+1:Nat))):=Kp.setCell (p:=⟨rb,1,I⟩) (e.nx.kp.trans ((Kp.al B).mono e.nx.kp.size)) (.inr Q) _
      have ax:vw w rb tb cap t i k o aa (m++⟨#[58,58]⟩++C) (r+1) D v A:=by
       refine⟨⟨u.rd,ab.trans (u.kp.mono ab.size),?_,λd=>e.nx.ok (u.ok d),λ_ d=>?_⟩,oM,?_,λd=>?_⟩
       ·have:=e.nx.le;have:=u.le;omega
       ·have:=e.nx.le;have:=u.le;omega
       ·rw[fN,fN];show m.size+2+C.size<=_;omega
       ·obtain⟨y,F,Y,G,n⟩:=e.ok Z.out;refine⟨y++[C.toList],sQ,by simp[Y],λac x=>?_,?_⟩
        ·rcases List.mem_append.1 x with x|x
         ·exact G ac x
         ·obtain rfl:ac=C.toList:=sU x;exact aw d
        ·rw[fO,fO,pq y _ F,n];rw[show(⟨#[58,58]⟩:ByteArray).toList=[58,58] by rw[Lib.toList_data]];simp
      have ay:ml t D v<gk:=by
       rw[ak.out,Z.out];exact bN X (oH u.le) (λd=>oH u.le)
      go_roundg (ml t D v)
      case measure=>exact ay
      case rel=>exact⟨_,r+1,D,v,A,Q,Q,by go_num,ax⟩
def ck (w:World) (b:Nat) (c:Array Value):Prop:=w.heap[b]? =some (Ob c 48 (0,0))
theorem ck.cell (h:ck w b c) (o:Nat):w.cell? ⟨b,o,I⟩=c[o]? :=cell_of_row w b o c 48 (0,0) h
theorem ck.fz (h:ck w b c) (o:Nat):w.frozen? ⟨b,o,I⟩=false:=frozen_of_row w b o c 48 h
theorem ck.lt (h:ck w b c):b<E (U w):=(gE h).1
theorem ck.new (w:World) (c:Array Value):ck (w.alloc (Ob c 48)) (E (U w)) c:=heap_alloc_new w _
theorem ck.alloc (h:ck w b c) (o:Obj):ck (w.alloc o) b c:=(Below.heap_alloc _ _ _ h.lt).trans h
theorem ck.below (h:ck w b c) (d:Below (E (U w)) w w'):ck w' b c:=(d.block b h.lt).trans h
theorem ck.kp (h:ck w b c) (d:Kp (E (U w)) rb w w') (e:b≠rb):ck w' b c:=(d.block b h.lt e).trans h
theorem ck.grown {d:Option Nat} (h:ck w b c) (e:w.grownBy w' d) (f:some b≠d):ck w' b c:=(e.block b h.lt f).trans h
theorem ck.other (h:ck w b c) {p:Addr} (d:b≠p.block) (u:Value):ck (w.setCell p u) b c:=(Below.heap_setCell _ _ _ _ d).trans h
theorem ck.set (h:ck w b c) (o:Nat) (u:Value):ck (w.setCell ⟨b,o,I⟩ u) b (c.setIfInBounds o u):=heap_setCell_same w b o c 48 u h
theorem ck.drew (h:ck w b c):ck w.drew b c:=h
theorem aq.aK {S:Nat->Prop} (h:¬S b) (c0 c1 c2 c3 d e f l m n o:Value):aq S w (aK w b c0 c1 c2 c3 d e f l m n o):=
 (((((((((((aq.setCell w ⟨b,0,I⟩ c0 h).trans (aq.setCell _ ⟨b,1,I⟩ c1 h) sQ).trans (aq.setCell _ ⟨b,2,I⟩ c2 h) sQ).trans (aq.setCell _ ⟨b,3,I⟩ c3 h) sQ).trans (aq.setCell _ ⟨b,4,I⟩ d h) sQ).trans (aq.setCell _ ⟨b,5,I⟩ e h) sQ).trans (aq.setCell _ ⟨b,6,I⟩ f h) sQ).trans (aq.setCell _ ⟨b,7,I⟩ l h) sQ).trans (aq.setCell _ ⟨b,8,I⟩ m h) sQ).trans (aq.setCell _ ⟨b,9,I⟩ n h) sQ).trans (aq.setCell _ ⟨b,10,I⟩ o h) sQ)
theorem Rd.aK (h:Rd w rb tb cap t i k a) (d:b≠rb) (e:b≠tb) (c0 c1 c2 c3 f l m n o q r:Value):Rd (aK w b c0 c1 c2 c3 f l m n o q r) rb tb cap t i k a:=
 (Rd.setCell (p:=⟨b,10,I⟩) (Rd.setCell (p:=⟨b,9,I⟩) (Rd.setCell (p:=⟨b,8,I⟩) (Rd.setCell (p:=⟨b,7,I⟩) (Rd.setCell (p:=⟨b,6,I⟩) (Rd.setCell (p:=⟨b,5,I⟩) (Rd.setCell (p:=⟨b,4,I⟩) (Rd.setCell (p:=⟨b,3,I⟩) (Rd.setCell (p:=⟨b,2,I⟩) (Rd.setCell (p:=⟨b,1,I⟩) (Rd.setCell (p:=⟨b,0,I⟩) h d e _) d e _) d e _) d e _) d e _) d e _) d e _) d e _) d e _) d e _) d e _)
structure St (w:World) (rb tb cap:Nat) (t:Tk) (W:World) (j:Nat) (kj aj:Int):Prop where
 rd:Rd W rb tb cap t j kj aj
 kp:Kp (E (U w)) rb w W
 lb:rb<E (U w)
 lt:tb<E (U w)
theorem Rd.st (h:Rd w rb tb cap t i k a):St w rb tb cap t w i k a:=⟨h,Kp.refl _ _ _,h.l,h.row.lt⟩
section
variable{w W:World} {rb tb cap j:Nat} {t:Tk} {kj aj:Int}
theorem St.size (h:St w rb tb cap t W j kj aj):E (U w)<=E (U W):=h.kp.size
theorem St.alloc (h:St w rb tb cap t W j kj aj) (o:Obj):St w rb tb cap t (W.alloc o) j kj aj:=⟨h.rd.alloc o,h.kp.alloc h.size o,h.lb,h.lt⟩
theorem St.drew (h:St w rb tb cap t W j kj aj):St w rb tb cap t W.drew j kj aj:=⟨h.rd.drew,h.kp.drew,h.lb,h.lt⟩
theorem St.below (h:St w rb tb cap t W j kj aj) (d:Below (E (U W)) W w'):St w rb tb cap t w' j kj aj:=⟨h.rd.below d,h.kp.trans ((Kp.al d).mono h.size),h.lb,h.lt⟩
theorem St.nx (h:St w rb tb cap t W j kj aj) (d:Nx W rb tb cap t j kj must w' i' k' a'):St w rb tb cap t w' i' k' a':=⟨d.rd,h.kp.trans (d.kp.mono h.size),h.lb,h.lt⟩
theorem St.rk (h:St w rb tb cap t W j kj aj) (d:Rd w' rb tb cap t i' k' a') (e:Kp (E (U W)) rb W w'):St w rb tb cap t w' i' k' a':=⟨d,h.kp.trans (e.mono h.size),h.lb,h.lt⟩
theorem St.put (h:St w rb tb cap t W j kj aj) (d:E (U w)<=b) (o:Nat) (u:Value):St w rb tb cap t (W.setCell ⟨b,o,I⟩ u) j kj aj:=⟨h.rd.setCell (p:=⟨b,o,I⟩) (by have:=h.lb;show b≠rb;omega) (by have:=h.lt;show b≠tb;omega) u,h.kp.setCell (p:=⟨b,o,I⟩) (.inl d) u,h.lb,h.lt⟩
theorem St.go (h:St w rb tb cap t W j kj aj) {j':Nat} (d:j'<t.len):St w rb tb cap t (W.setCell ⟨rb,1,I⟩ (vN j')) j' kj aj:=⟨h.rd.sj d,h.kp.setCell (p:=⟨rb,1,I⟩) (.inr Q) _,h.lb,h.lt⟩
theorem St.grown (h:St w rb tb cap t W j kj aj) {f:Option Nat} (l:W.grownBy w' f) (d:∀b,f=some b->E (U w)<=b):St w rb tb cap t w' j kj aj:=
 ⟨h.rd.grown l (λe=>oI (d _ e) h.lb) (λe=>oI (d _ e) h.lt),h.kp.grown l h.size d,h.lb,h.lt⟩
end
theorem tu {d:World} {C:Int->Prop} (h:St w rb tb cap t d i' k' a') (e:i<=i') (f:k'=0->k=0) (l:must->k'=0->i<i')
 {kind pos n m:Int} {name:ByteArray} {ko:OA} {kl kc:Nat} (o:bf (E (U w)+1) (k'=0) d (ae kind pos n m name (J ko kl kc)).toList) (p:k'=0->C (az (ae kind pos n m name (J ko kl kc)).toList)):
  eI w rb tb cap t i k must C (.returned (.agg (ae kind pos n m name (J ko kl kc)))) (aK d (E (U w)) (vN kind) (vN pos) (vN n) (vN m) (.string name) (J ko kl kc) (vN 0) (vN 0) (J I 0 0) (J I 0 0) (J I 0 0)):=
  ⟨kind,pos,n,m,name,ko,kl,kc,i',k',a',Q,⟨h.rd.aK (oH h.lb) (oH h.lt) _ _ _ _ _ _ _ _ _ _ _,h.kp.aK (lR _) _ _ _ _ _ _ _ _ _ _ _,e,f,l⟩,(o.same (aq.aK oM _ _ _ _ _ _ _ _ _ _ _)).weaken oM (λq=>q),p⟩
end
section
variable{fn:Func} {a a' k k' kind m n pos:Int} {ks:List Int} {b base cap i i' r rb tb:Nat} {g g' must:Prop} {t:Tk} {vs:VV} {kv:Value} {W w w':World}
abbrev aB:Array Value:=ae 0 0 0 0 ⟨#[]⟩ (J I 0 0)
structure Nd (w:World) (rb tb cap:Nat) (t:Tk) (W:World) (j:Nat) (kj aj:Int) (b:Nat) (c:Array Value):Prop where
 st:St w rb tb cap t W j kj aj
 z:ck W (E (U w)) aB
 n:ck W b c
 lt:E (U w)<b
section
variable{w W w':World} {rb tb cap j:Nat} {t:Tk} {kj aj:Int} {b:Nat} {c:Array Value}
theorem Nd.new {d:World} (h:Rd w rb tb cap t i k a) (e:Below (E (U (w.alloc (Ob aB 48)))) (w.alloc (Ob aB 48)) d) (c:Array Value):Nd w rb tb cap t (d.alloc (Ob c 48)) i k a (E (U d)) c:=
 ⟨((h.st.alloc _).below e).alloc _,((ck.new w _).below e).alloc _,ck.new d c,((ck.new w _).below e).lt⟩
theorem Nd.alloc (h:Nd w rb tb cap t W j kj aj b c) (o:Obj):Nd w rb tb cap t (W.alloc o) j kj aj b c:=⟨h.st.alloc o,h.z.alloc o,h.n.alloc o,h.lt⟩
theorem Nd.drew (h:Nd w rb tb cap t W j kj aj b c):Nd w rb tb cap t W.drew j kj aj b c:=⟨h.st.drew,h.z,h.n,h.lt⟩
theorem Nd.below (h:Nd w rb tb cap t W j kj aj b c) (d:Below (E (U W)) W w'):Nd w rb tb cap t w' j kj aj b c:=⟨h.st.below d,h.z.below d,h.n.below d,h.lt⟩
theorem Nd.rk (h:Nd w rb tb cap t W j kj aj b c) (e:Rd w' rb tb cap t i' k' a') (d:Kp (E (U W)) rb W w'):Nd w rb tb cap t w' i' k' a' b c:=
 ⟨h.st.rk e d,h.z.kp d (oH h.st.lb),h.n.kp d (oI h.st.lb h.lt),h.lt⟩
theorem Nd.nx (h:Nd w rb tb cap t W j kj aj b c) (d:Nx W rb tb cap t j kj must w' i' k' a'):Nd w rb tb cap t w' i' k' a' b c:=h.rk d.rd d.kp
theorem Nd.put (h:Nd w rb tb cap t W j kj aj b c) (o:Nat) (u:Value):Nd w rb tb cap t (W.setCell ⟨b,o,I⟩ u) j kj aj b (c.setIfInBounds o u):=
 ⟨h.st.put (oH h.lt) o u,h.z.other (p:=⟨b,o,I⟩) (by have:=h.lt;show E (U w)≠b;omega) u,h.n.set o u,h.lt⟩
theorem Nd.go (h:Nd w rb tb cap t W j kj aj b c) {j':Nat} (d:j'<t.len):Nd w rb tb cap t (W.setCell ⟨rb,1,I⟩ (vN j')) j' kj aj b c:=
 ⟨h.st.go d,h.z.other (p:=⟨rb,1,I⟩) (by have:=h.st.lb;show E (U w)≠rb;omega) _,h.n.other (p:=⟨rb,1,I⟩) (by have:=h.st.lb;have:=h.lt;show b≠rb;omega) _,h.lt⟩
theorem Nd.grown (h:Nd w rb tb cap t W j kj aj b c) {l:Option Nat} (d:W.grownBy w' l) (e:∀x,l=some x->b<x):Nd w rb tb cap t w' j kj aj b c:=
 ⟨h.st.grown d (λx o=>oI (e x o) h.lt),h.z.grown d (λf=>oI (e _ f.symm) h.lt),h.n.grown d (λf=>oH (e _ f.symm)),h.lt⟩
end
theorem bw (h:Rd w rb tb cap t i k a) (s:ByteArray) (f:bS t i k 0 s=false):
 Calls Tryz.prog 36 #[.pointer (aS rb),.string s] w λd w'=>d=.returned (.bool false)/\Below (E (U w)) w w':=by
 go_enter Tryz.func36,Tryz.ntmps36
 go_wp2_with (go_at_call 35;refine(aX h 0 oM s).mono ?_;rintro d l ⟨rfl,e⟩)
 go_ret;exact⟨Q,e⟩
theorem eH (h:Rd w rb tb cap t i k a) (s:ByteArray) (f:bS t i k 0 s=true):
 Calls Tryz.prog 36 #[.pointer (aS rb),.string s] w λd w'=>d=.returned (.bool true)/\Nx w rb tb cap t i k True w' (i+1) k a:=by
 refine(aU h s).mono ?_;rintro d p ⟨b,q,rfl,e,l,o⟩;obtain rfl:b=true:=by rw[e.zA];exact f
 obtain⟨rfl,_⟩:=e.yes Q;exact⟨Q,l,o,oM,λd=>d,λ_ _=>by omega⟩
theorem Kids.kp (h:Kids base g w kv vs) (d:Kp (E (U w)) rb w w') (f:rb<base) (e:g'->g):Kids base g' w' kv vs:=
 (h.weaken (lR _) e).same (aq.kp d oM)
theorem bf.kp {cs:List Value} (h:bf base g w cs) (d:Kp (E (U w)) rb w w') (f:rb<base) (e:g'->g):bf base g' w' cs:=
 (h.weaken (lR _) e).same (aq.kp d oM)
theorem Kids.first {D:OA} {H:Nat} {v:List Value} (h:Kids base g w (J D 1 H) [v]):∃l,D=some ⟨l,0,I⟩/\base<=l/\l<E (U w)/\∃kind pos n m p d e f,v=(ae kind pos n m p (J d e f)).toList/\(∀o,o<11->w.cell? ⟨l,o,I⟩=(ae kind pos n m p (J d e f))[o]?)/\bf base g w v:=by
 obtain⟨K,u,L⟩:=h;have F:=L v sQ;rcases K.2 with⟨x,M⟩|⟨l,cap,cur,x,s,hg,hnc,hcm,hcs,htake⟩
 ·simp at M
 ·simp only[Value.slice.injEq] at x;obtain⟨rfl,_,rfl⟩:=x;refine⟨l,Q,s,(gE hg).1,?_⟩
  cases u with
  |zero=>exact absurd F (λq=>q)
  |succ u=>
   obtain⟨kind,pos,n,m,p,kv,vs,A,B,N,P,G,R,S,T⟩:=F
   have V:∃d e f,kv=J d e f:=by
    rcases G.2 with⟨C,_⟩|⟨q,y,z,C,_⟩
    ·exact⟨_,_,_,C⟩
    ·exact⟨_,_,_,C⟩
   obtain⟨d,e,f,rfl⟩:=V;refine⟨kind,pos,n,m,p,d,e,f,A,λo X=>?_,u+1,kind,pos,n,m,p,J d e f,vs,A,B,N,P,G,λb s=>(R b s).1,λq Y=>isNode.weaken (λb s=>s.1) (λq=>q) _ _ (S q Y),T⟩;rw[cell_of_row w l o cur 48 (0,0) hg]
   have Z:cur.toList.take 11=(ae kind pos n m p (J d e f)).toList:=by
    have:=htake;simp only[List.length_cons,List.length_nil,List.flatten_cons,List.flatten_nil,List.append_nil] at this;rw[<-A];exact this
   have B:(cur.toList.take 11)[o]? =cur[o]? :=by rw[List.getElem?_take,if_pos X];simp
   rw[<-B,Z];simp
theorem ck.aK {F D C B z y v u q p l:Value} (h:ck w b #[F,D,C,B,z,y,v,u,q,p,l]) (c0 c1 c2 c3 d e f o s x A:Value):ck (Go.Proofs.YtdghkacbpebcoaaGreat.aK w b c0 c1 c2 c3 d e f o s x A) b #[c0,c1,c2,c3,d,e,f,o,s,x,A]:=by
 have G:ck (w.setCell ⟨b,0,I⟩ c0) b #[c0,D,C,B,z,y,v,u,q,p,l]:=ck.set h 0 c0;have H:ck ((w.setCell ⟨b,0,I⟩ c0).setCell ⟨b,1,I⟩ c1) b #[c0,c1,C,B,z,y,v,u,q,p,l]:=ck.set G 1 c1;have K:ck (((w.setCell ⟨b,0,I⟩ c0).setCell ⟨b,1,I⟩ c1).setCell ⟨b,2,I⟩ c2) b #[c0,c1,c2,B,z,y,v,u,q,p,l]:=ck.set H 2 c2;have L:ck ((((w.setCell ⟨b,0,I⟩ c0).setCell ⟨b,1,I⟩ c1).setCell ⟨b,2,I⟩ c2).setCell ⟨b,3,I⟩ c3) b #[c0,c1,c2,c3,z,y,v,u,q,p,l]:=ck.set K 3 c3;have M:ck (((((w.setCell ⟨b,0,I⟩ c0).setCell ⟨b,1,I⟩ c1).setCell ⟨b,2,I⟩ c2).setCell ⟨b,3,I⟩ c3).setCell ⟨b,4,I⟩ d) b #[c0,c1,c2,c3,d,y,v,u,q,p,l]:=ck.set L 4 d;have N:ck ((((((w.setCell ⟨b,0,I⟩ c0).setCell ⟨b,1,I⟩ c1).setCell ⟨b,2,I⟩ c2).setCell ⟨b,3,I⟩ c3).setCell ⟨b,4,I⟩ d).setCell ⟨b,5,I⟩ e) b #[c0,c1,c2,c3,d,e,v,u,q,p,l]:=ck.set M 5 e;have P:ck (((((((w.setCell ⟨b,0,I⟩ c0).setCell ⟨b,1,I⟩ c1).setCell ⟨b,2,I⟩ c2).setCell ⟨b,3,I⟩ c3).setCell ⟨b,4,I⟩ d).setCell ⟨b,5,I⟩ e).setCell ⟨b,6,I⟩ f) b #[c0,c1,c2,c3,d,e,f,u,q,p,l]:=ck.set N 6 f;have R:ck ((((((((w.setCell ⟨b,0,I⟩ c0).setCell ⟨b,1,I⟩ c1).setCell ⟨b,2,I⟩ c2).setCell ⟨b,3,I⟩ c3).setCell ⟨b,4,I⟩ d).setCell ⟨b,5,I⟩ e).setCell ⟨b,6,I⟩ f).setCell ⟨b,7,I⟩ o) b #[c0,c1,c2,c3,d,e,f,o,q,p,l]:=ck.set P 7 o;have S:ck (((((((((w.setCell ⟨b,0,I⟩ c0).setCell ⟨b,1,I⟩ c1).setCell ⟨b,2,I⟩ c2).setCell ⟨b,3,I⟩ c3).setCell ⟨b,4,I⟩ d).setCell ⟨b,5,I⟩ e).setCell ⟨b,6,I⟩ f).setCell ⟨b,7,I⟩ o).setCell ⟨b,8,I⟩ s) b #[c0,c1,c2,c3,d,e,f,o,s,p,l]:=ck.set R 8 s;have T:ck ((((((((((w.setCell ⟨b,0,I⟩ c0).setCell ⟨b,1,I⟩ c1).setCell ⟨b,2,I⟩ c2).setCell ⟨b,3,I⟩ c3).setCell ⟨b,4,I⟩ d).setCell ⟨b,5,I⟩ e).setCell ⟨b,6,I⟩ f).setCell ⟨b,7,I⟩ o).setCell ⟨b,8,I⟩ s).setCell ⟨b,9,I⟩ x) b #[c0,c1,c2,c3,d,e,f,o,s,x,l]:=ck.set S 9 x;have V:ck (((((((((((w.setCell ⟨b,0,I⟩ c0).setCell ⟨b,1,I⟩ c1).setCell ⟨b,2,I⟩ c2).setCell ⟨b,3,I⟩ c3).setCell ⟨b,4,I⟩ d).setCell ⟨b,5,I⟩ e).setCell ⟨b,6,I⟩ f).setCell ⟨b,7,I⟩ o).setCell ⟨b,8,I⟩ s).setCell ⟨b,9,I⟩ x).setCell ⟨b,10,I⟩ A) b #[c0,c1,c2,c3,d,e,f,o,s,x,A]:=ck.set T 10 A;exact V
theorem eB (u:fn.results=#[.cell r 48]) {d:Array Value} (v:d.getD r undef=.pointer (aS b)) {c0 c1 c2 c3 e f l o p q s:Value} (x:ck W b #[c0,c1,c2,c3,e,f,l,o,p,q,s]):
 (results fn d).run Tryz.prog W=.ok (.agg #[c0,c1,c2,c3,e,f,l,o,p,q,s]) W:=by
 have y:=x.cell;have z:d[r]?.getD undef=.pointer (aS b):=sU v;simp[results,u,z,go_sem,y]
theorem sE (f:fn.results=#[.cell r 48]) {e:Act} {d:World} (l:e.defers=[]) (o:e.tmps.getD r undef=.pointer (aS (E (U w)))) (z:ck d (E (U w)) aB) {C:Int->Prop} (h:St w rb tb cap t d i' k' a') (p:i<=i') (q:k'=0->k=0) (s:must->k'=0->i<i')
 {name:ByteArray} {ko:OA} {kl kc:Nat} (u:bf (E (U w)+1) (k'=0) d (ae kind pos n m name (J ko kl kc)).toList) (v:k'=0->C (az (ae kind pos n m name (J ko kl kc)).toList)):
  bodyPost Tryz.prog fn (eI w rb tb cap t i k must C) .ret e (Go.Proofs.YtdghkacbpebcoaaGreat.aK d (E (U w)) (vN kind) (vN pos) (vN n) (vN m) (.string name) (J ko kl kc) (vN 0) (vN 0) (J I 0 0) (J I 0 0) (J I 0 0)):=
  bodyPost_ret (eB f o (ck.aK z _ _ _ _ _ _ _ _ _ _ _)) l (tu h p q s u v)
theorem Kids.put (h:Kids base g w kv vs) (d:b<base) (o:Nat) (u:Value):Kids base g (w.setCell ⟨b,o,I⟩ u) kv vs:=
 h.same (aq.setCell _ ⟨b,o,I⟩ _ (by show ¬base<=b;omega))
theorem bf.name {name:ByteArray} (h:bf base g w (ae kind pos n m name kv).toList):name.size<=20000:=by
 obtain⟨d,h⟩:=h
 cases d with
 |zero=>exact absurd h (λf=>f)
 |succ d=>
  obtain⟨o,p,q,s,u,v,vs,e,l,_⟩:=h;simp at e;rw[e.2.2.2.2.1];exact l
theorem Bd.any {d:Nat} (h:Bd (d+1) t i k r) (f:k=0) (hl:i<t.len):∀i' k' e,i<i'->e<64->Bd d t i' k' e:=λ_ _ _ l o=>h.prog f l hl o
theorem Gr.pU {name:ByteArray} (h:∀x∈ks,x=1):Gr 0 n name ks:=by
 constructor<;>intro d<;>first|exact absurd d dC|exact h
theorem Gr.sY {name:ByteArray} (h:∀x∈ks,x=2\/x=3\/x=6\/x=7\/x=108):Gr 1 n name ks:=by
 constructor<;>intro d<;>first|exact absurd d dC|exact h
theorem Gr.wh {name:ByteArray} (h:cu 2 name/\¬cu 1 name):Gr 2 n name ks:=by
 constructor<;>intro d<;>first|exact absurd d dC|exact h
theorem Gr.pW {name:ByteArray} (h:∃vs,ks=9::vs/\∀x∈vs,x=4):Gr 3 n name ks:=by
 constructor<;>intro d<;>first|exact absurd d dC|exact h
theorem Gr.kO {name:ByteArray} (h:∀x∈ks,x=5):Gr 4 n name ks:=by
 constructor<;>intro d<;>first|exact absurd d dC|exact h
theorem Gr.nL {name:ByteArray} (h:∃x,ks=[x]/\cx x):Gr 5 n name ks:=by
 constructor<;>intro d<;>first|exact absurd d dC|exact h
theorem Gr.sW {name:ByteArray} (h:∀x∈ks,x=8):Gr 6 n name ks:=by
 constructor<;>intro d<;>first|exact absurd d dC|exact h
theorem Gr.uV {name:ByteArray} (h:cu 2 name/\∃x d,ks=9::x::d/\cx x/\∀f∈d,f=108):Gr 7 n name ks:=by
 constructor<;>intro e<;>first|exact absurd e dC|exact h
theorem Gr.pV {name:ByteArray} (h:∃d x e,ks=9::(d++x::e)/\(O d:Int)=n/\(∀p∈d,p=12)/\cx x/\O e<=1):Gr 8 n name ks:=by
 constructor<;>intro f<;>first|exact absurd f dC|exact h
theorem Gr.ft {name:ByteArray} (h:∀x∈ks,x=10\/x=11) (hl:O ks<=6100:=by simp):Gr 9 n name ks:=by
 constructor<;>intro d<;>first|exact absurd d dC|exact⟨hl,h⟩
theorem Gr.nK {name:ByteArray} (h:∀x∈ks,x=19):Gr 10 n name ks:=by
 constructor<;>intro d<;>first|exact absurd d dC|exact h
theorem Gr.jj {name:ByteArray} (h:∀x∈ks,x=19\/x=18):Gr 11 n name ks:=by
 constructor<;>intro d<;>first|exact absurd d dC|exact h
theorem Gr.sX {name:ByteArray} (h:∃x,ks=[x]/\cx x):Gr 12 n name ks:=by
 constructor<;>intro d<;>first|exact absurd d dC|exact h
theorem Gr.nJ {name:ByteArray} (h:∀x∈ks,cx x):Gr 15 n name ks:=by
 constructor<;>intro d<;>first|exact absurd d dC|exact h
theorem Gr.fg {name:ByteArray} (h:(n=0\/n=1)/\∃x,ks=[x]/\cx x):Gr 16 n name ks:=by
 constructor<;>intro d<;>first|exact absurd d dC|exact h
theorem Gr.sZ {name:ByteArray} (h:ks≠[]/\∀x∈ks,cx x):Gr 17 n name ks:=by
 constructor<;>intro d<;>first|exact absurd d dC|exact h
theorem Gr.mE {name:ByteArray} (h:cu 2 name/\∃ls d,ks=ls++d/\(∀x∈ls,x=19)/\∀x∈d,cx x):Gr 18 n name ks:=by
 constructor<;>intro e<;>first|exact absurd e dC|exact h
end
end Go.Proofs.YtdghkacbpebcoaaGreat
