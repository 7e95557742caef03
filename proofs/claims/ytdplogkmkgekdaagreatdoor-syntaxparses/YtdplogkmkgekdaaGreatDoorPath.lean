/- Paths and lifetimes. -/
import Derived.Test.YtdplogkmkgekdaaGreatDoorRef
import Derived.Deep.QuietTactic
import Derived.BigQuiet
import Derived.RegionTactic
import Derived.BigRegion
import Derived.Maps.AppendAt
import Derived.Deep.LoopGhost
set_option linter.all false
set_option maxRecDepth 100000
set_option maxHeartbeats 4000000
namespace Go.Proofs.YtdplogkmkgekdaaGreatDoor
open Go.RowKit
structure Tk where
 len:Nat
 kind:Nat→Nat
 pos:Nat→Nat
 text:Nat→ByteArray
 num:Nat→Nat
def nameOK (s:ByteArray):Prop:=s.toList≠[]∧(58:UInt8)∉s.toList
structure Tk.Good (t:Tk):Prop where
 name:∀j,t.kind j=2→nameOK (t.text j)
 some_:0<t.len
 few:t.len≤6001
 last:t.kind (t.len - 1)=0
 posb:∀j,t.pos j≤6000
 textb:∀j,(t.text j).size≤6000
 numb:∀j,t.num j≤9223372036854775807
structure Row (w:World) (tb:Nat) (t:Tk):Prop where
 lt:tb<w.heap.size
 c0:∀j,j<t.len→w.cell? ⟨tb,j*4,none⟩=some (.int .i64 (t.kind j))
 c1:∀j,j<t.len→w.cell? ⟨tb,j*4+1,none⟩=some (.int .i64 (t.pos j))
 c2:∀j,j<t.len→w.cell? ⟨tb,j*4+2,none⟩=some (.string (t.text j))
 c3:∀j,j<t.len→w.cell? ⟨tb,j*4+3,none⟩=some (.int .i64 (t.num j))
structure Rd (w:World) (rb tb cap:Nat) (t:Tk) (i:Nat) (k a:Int):Prop where
 blk:w.heap[rb]? =some (.cells #[.slice (some ⟨tb,0,none⟩) t.len cap,.int .i64 i,.int .i64 k,.int .i64 a] 51 (0,0))
 row:Row w tb t
 ne:rb≠tb
 good:t.Good
 lt:i<t.len
structure Kp (B rb:Nat) (w w':World):Prop where
 os:w'.os=w.os
 tape:w'.tape=w.tape
 output:w'.output=w.output
 size:w.heap.size≤w'.heap.size
 block:∀k,k<B→k≠rb→w'.heap[k]? =w.heap[k]?
theorem Kp.refl (B rb:Nat) (w:World):Kp B rb w w:=⟨rfl,rfl,rfl,Nat.le_refl _,fun _ _ _=>rfl⟩
theorem Kp.trans {B rb:Nat} {a b c:World} (h:Kp B rb a b) (k:Kp B rb b c):Kp B rb a c:=
 ⟨k.os.trans h.os,k.tape.trans h.tape,k.output.trans h.output,Nat.le_trans h.size k.size,fun i hi hn=>(k.block i hi hn).trans (h.block i hi hn)⟩
theorem Kp.mono {B B' rb:Nat} {w w':World} (h:Kp B rb w w') (hB:B'≤B):Kp B' rb w w':=⟨h.os,h.tape,h.output,h.size,fun k hk hn=>h.block k (Nat.lt_of_lt_of_le hk hB) hn⟩
theorem Kp.of_below {B rb:Nat} {w w':World} (h:Below B w w'):Kp B rb w w':=⟨h.os,h.tape,h.output,h.size,fun k hk _=>h.block k hk⟩
theorem Kp.drew {B rb:Nat} {a w:World} (h:Kp B rb a w):Kp B rb a w.drew:=⟨h.os,h.tape,h.output,h.size,h.block⟩
theorem Kp.alloc {B rb:Nat} {a w:World} (h:Kp B rb a w) (hB:B≤w.heap.size) (o:Obj):Kp B rb a (w.alloc o):=
 h.trans ⟨rfl,rfl,rfl,by simp,fun k hk _=>Below.heap_alloc _ _ _ (by omega)⟩
theorem Kp.setCell {B rb:Nat} {a w:World} (h:Kp B rb a w) {p:Addr} (hp:B≤p.block∨p.block=rb) (u:Value):Kp B rb a (w.setCell p u):=
 h.trans ⟨rfl,rfl,rfl,by simp[World.setCell],fun k hk hn=>Below.heap_setCell _ _ _ _ (by omega)⟩
theorem Kp.grown {B rb:Nat} {a w w':World} {row:Option Nat} (h:Kp B rb a w) (hg:w.grownBy w' row) (hB:B≤w.heap.size) (hr:∀k,row=some k→B≤k):Kp B rb a w':=
 h.trans ⟨hg.os,hg.tape,hg.output,hg.size,fun k hk _=>hg.block k (by omega) (fun e=>by have:=hr k e.symm;omega)⟩
theorem Row.of_cells {w w':World} {tb:Nat} {t:Tk} (h:Row w tb t) (hs:w'.heap[tb]? =w.heap[tb]?):Row w' tb t:=by
 have e:∀o,w'.cell? ⟨tb,o,none⟩=w.cell? ⟨tb,o,none⟩:=fun o=>World.cell?_of_block (w:=w) hs
 have hl:tb<w'.heap.size:=by
  have h1:w.heap[tb]? =some (w.heap[tb]'h.lt):=Array.getElem?_eq_getElem h.lt
  rw[h1] at hs
  exact(Array.getElem?_eq_some_iff.1 hs).1
 exact⟨hl,fun j hj=>by rw[e];exact h.c0 j hj,fun j hj=>by rw[e];exact h.c1 j hj,fun j hj=>by rw[e];exact h.c2 j hj,fun j hj=>by rw[e];exact h.c3 j hj⟩
section
variable {w:World} {rb tb cap i:Nat} {t:Tk} {k a:Int}
theorem Rd.l (h:Rd w rb tb cap t i k a):rb<w.heap.size:=(Array.getElem?_eq_some_iff.1 h.blk).1
theorem Rd.r0 (h:Rd w rb tb cap t i k a):w.cell? ⟨rb,0,none⟩=some (.slice (some ⟨tb,0,none⟩) t.len cap):=by rw[cell_of_row w rb 0 _ 51 (0,0) h.blk];rfl
theorem Rd.r1 (h:Rd w rb tb cap t i k a):w.cell? ⟨rb,1,none⟩=some (.int .i64 i):=by rw[cell_of_row w rb 1 _ 51 (0,0) h.blk];rfl
theorem Rd.r2 (h:Rd w rb tb cap t i k a):w.cell? ⟨rb,2,none⟩=some (.int .i64 k):=by rw[cell_of_row w rb 2 _ 51 (0,0) h.blk];rfl
theorem Rd.r3 (h:Rd w rb tb cap t i k a):w.cell? ⟨rb,3,none⟩=some (.int .i64 a):=by rw[cell_of_row w rb 3 _ 51 (0,0) h.blk];rfl
theorem Rd.fz (h:Rd w rb tb cap t i k a) (j:Nat):w.frozen? ⟨rb,j,none⟩=false:=frozen_of_row w rb j _ 51 h.blk
end
theorem ok21 {w:World} {rb tb cap i:Nat} {t:Tk} {k a:Int} (h:Rd w rb tb cap t i k a):
 Calls Tryz.prog 18 #[.pointer (some ⟨rb,0,none⟩)] w fun e w'=>e=.returned (.bool (k==0))∧w'=w:=by
 have r2:=h.r2
 go_enter Tryz.func18,Tryz.ntmps18
 go_wp2
 go_ret
 exact⟨rfl,rfl⟩
theorem tok38 {w:World} {rb tb cap i:Nat} {t:Tk} {k a:Int} (h:Rd w rb tb cap t i k a):
 Calls Tryz.prog 41 #[.pointer (some ⟨rb,0,none⟩)] w fun e w'=>e=.returned (.agg #[.int .i64 (t.kind i),.int .i64 (t.pos i),.string (t.text i),.int .i64 (t.num i)])∧Below w.heap.size w w':=by
 have r0:=h.r0
 have r1:=h.r1
 have hl:=h.l
 have hlt:=h.row.lt
 have e0:=h.row.c0 i h.lt
 have e1:=h.row.c1 i h.lt
 have e2:=h.row.c2 i h.lt
 have e3:=h.row.c3 i h.lt
 have hi:(i:Int)<(t.len:Int):=by have:=h.lt;omega
 go_enter Tryz.func41,Tryz.ntmps41
 go_wp2_with fail
 go_region
 go_wp2_with fail
 exact bodyPost_ret (v:=.agg #[.int .i64 (t.kind i),.int .i64 (t.pos i),.string (t.text i),.int .i64 (t.num i)]) (by simp[results,Tryz.results41,go_sem]) rfl ⟨rfl,((Below.refl _ _).alloc (Nat.le_refl _) _).drew⟩
theorem Rd.below {w w':World} {rb tb cap i:Nat} {t:Tk} {k a:Int} (h:Rd w rb tb cap t i k a) (hb:Below w.heap.size w w'):Rd w' rb tb cap t i k a:=
 ⟨by rw[hb.block rb h.l];exact h.blk,h.row.of_cells (hb.block tb h.row.lt),h.ne,h.good,h.lt⟩
def isB (t:Tk) (i:Nat) (k:Int) (ahead:Nat) (s:ByteArray):Bool:=
 (k==0)&&(decide (i+ahead<t.len)&&((t.kind (i+ahead)==5||t.kind (i+ahead)==3)&&((t.text (i+ahead)).toList==s.toList)))
def kindB (t:Tk) (i:Nat) (k:Int) (ahead:Nat) (q:Int):Bool:=
 (k==0)&&(decide (i+ahead<t.len)&&((t.kind (i+ahead):Int)==q))
theorem Rd.drewN {w:World} {rb tb cap i:Nat} {t:Tk} {k a:Int} (h:Rd w rb tb cap t i k a) (n:Nat):Rd (w.drewN n) rb tb cap t i k a:=
 ⟨h.blk,h.row.of_cells rfl,h.ne,h.good,h.lt⟩
theorem below_drewN (w:World) (n:Nat):Below w.heap.size w (w.drewN n):=⟨rfl,rfl,rfl,Nat.le_refl _,fun _ _=>rfl⟩
theorem kind22 {w:World} {rb tb cap i:Nat} {t:Tk} {k a:Int} (h:Rd w rb tb cap t i k a) (ahead:Nat) (ha:ahead≤2) (q:Int):
 Calls Tryz.prog 19 #[.pointer (some ⟨rb,0,none⟩),.int .i64 ahead,.int .i64 q] w fun e w'=>e=.returned (.bool (kindB t i k ahead q))∧Below w.heap.size w w':=by
 have r0:=h.r0
 have r1:=h.r1
 have hl:=h.l
 have hlt:=h.row.lt
 have hi:(i:Int)<(t.len:Int):=by have:=h.lt;omega
 have hf:(t.len:Int)≤6001:=by have:=h.good.few;omega
 have hq:∀n,Calls Tryz.prog 18 #[.pointer (some ⟨rb,0,none⟩)] (w.drewN n) fun e w'=>e=.returned (.bool (k==0))∧w'=w.drewN n:=fun n=>ok21 (h.drewN n)
 cases hk:(k==0)<;>rw[hk] at hq
 ·go_enter Tryz.func19,Tryz.ntmps19
  go_wp2_with fail
  go_quiet ((go_at_call 18;exact Calls.quiet_of_same (hq _)))
  go_wp2_with fail
  go_ret
  exact⟨ret_bool (by unfold kindB;rw[hk];rfl),below_drewN _ _⟩
 ·by_cases hx:i+ahead<t.len
  ·have hx':(i:Int)+(ahead:Int)<(t.len:Int):=by omega
   have e0:=h.row.c0 (i+ahead) hx
   go_enter Tryz.func19,Tryz.ntmps19
   go_wp2_with fail
   go_quiet ((go_at_call 18;exact Calls.quiet_of_same (hq _)))
   go_wp2_with fail
   go_ret
   exact⟨ret_bool (by unfold kindB;rw[hk];simp[hx]),below_drewN _ _⟩
  ·have hx':decide ((i:Int)+(ahead:Int)<(t.len:Int))=false:=by simp;omega
   go_enter Tryz.func19,Tryz.ntmps19
   go_wp2_with fail
   go_quiet ((go_at_call 18;exact Calls.quiet_of_same (hq _)))
   go_wp2_with fail
   go_ret
   exact⟨ret_bool (by unfold kindB;rw[hk];simp[hx]),below_drewN _ _⟩
theorem is41 {w:World} {rb tb cap i:Nat} {t:Tk} {k a:Int} (h:Rd w rb tb cap t i k a) (ahead:Nat) (ha:ahead≤2) (s:ByteArray):
 Calls Tryz.prog 44 #[.pointer (some ⟨rb,0,none⟩),.int .i64 ahead,.string s] w fun e w'=>e=.returned (.bool (isB t i k ahead s))∧Below w.heap.size w w':=by
 have r0:=h.r0
 have r1:=h.r1
 have hl:=h.l
 have hlt:=h.row.lt
 have hi:(i:Int)<(t.len:Int):=by have:=h.lt;omega
 have hf:(t.len:Int)≤6001:=by have:=h.good.few;omega
 have hq:∀n,Calls Tryz.prog 18 #[.pointer (some ⟨rb,0,none⟩)] (w.drewN n) fun e w'=>e=.returned (.bool (k==0))∧w'=w.drewN n:=fun n=>ok21 (h.drewN n)
 cases hk:(k==0)<;>rw[hk] at hq
 ·go_enter Tryz.func44,Tryz.ntmps44
  go_wp2_with fail
  go_quiet ((go_at_call 18;exact Calls.quiet_of_same (hq _)))
  go_wp2_with fail
  go_ret
  exact⟨ret_bool (by unfold isB;rw[hk];rfl),below_drewN _ _⟩
 ·by_cases hx:i+ahead<t.len
  ·have hx':(i:Int)+(ahead:Int)<(t.len:Int):=by omega
   have hx2:decide ((t.len:Int)≤(i:Int)+(ahead:Int))=false:=by simp;omega
   have hwr:IntKind.i64.wrap ((i:Int)+(ahead:Int))=((i+ahead:Nat):Int):=by rw[IntKind.wrap_i64];omega
   have hx3:((i+ahead:Nat):Int)<(t.len:Int):=by omega
   go_enter Tryz.func44,Tryz.ntmps44
   go_wp2_with fail
   go_quiet ((go_at_call 18;exact Calls.quiet_of_same (hq _)))
   rename_i nq
   have h1:=h.drewN nq
   have hb1:=below_drewN w nq
   generalize w.drewN nq=w1 at h1 hb1⊢
   have r0':=h1.r0
   have r1':=h1.r1
   have hl':=h1.l
   have hlt':=h1.row.lt
   have e0:=h1.row.c0 (i+ahead) hx
   have e1:=h1.row.c1 (i+ahead) hx
   have e2:=h1.row.c2 (i+ahead) hx
   have e3:=h1.row.c3 (i+ahead) hx
   go_wp2_with fail
   go_region
   go_wp2_with fail
   all_goals
    go_ret
    refine⟨ret_bool ?_,(hb1.alloc hb1.size _).drew⟩
    unfold isB
    rw[hk,decide_eq_true hx]
    first|(rw[show(t.kind (i+ahead)==5||t.kind (i+ahead)==3)=true by simp;omega];simp;done)|(rw[show(t.kind (i+ahead)==5||t.kind (i+ahead)==3)=false by simp;omega];simp;done)
  ·have hx':decide ((t.len:Int)≤(i:Int)+(ahead:Int))=true:=by simp;omega
   go_enter Tryz.func44,Tryz.ntmps44
   go_wp2_with fail
   go_quiet ((go_at_call 18;exact Calls.quiet_of_same (hq _)))
   go_wp2_with fail
   go_ret
   exact⟨ret_bool (by unfold isB;rw[hk];simp[hx]),below_drewN _ _⟩
abbrev nodeC (kind pos n m:Int) (name:ByteArray) (kids:Value):Array Value:=#[.int .i64 kind,.int .i64 pos,.int .i64 n,.int .i64 m,.string name,kids,.int .i64 0,.int .i64 0,.slice none 0 0,.slice none 0 0,.slice none 0 0]
theorem bcell {W w1:World} (hb:Below W.heap.size W w1):(∀b o,b<W.heap.size→w1.cell? ⟨b,o,none⟩=W.cell? ⟨b,o,none⟩)∧(∀b o,b<W.heap.size→w1.frozen? ⟨b,o,none⟩=W.frozen? ⟨b,o,none⟩):=
 ⟨fun b o h=>hb.cell (p:=⟨b,o,none⟩) h,fun b o h=>hb.frozen (p:=⟨b,o,none⟩) h⟩
theorem Rd.alloc {w:World} {rb tb cap i:Nat} {t:Tk} {k a:Int} (h:Rd w rb tb cap t i k a) (o:Obj):Rd (w.alloc o) rb tb cap t i k a:=h.below ((Below.refl _ _).alloc (Nat.le_refl _) o)
theorem Rd.drew {w:World} {rb tb cap i:Nat} {t:Tk} {k a:Int} (h:Rd w rb tb cap t i k a):Rd w.drew rb tb cap t i k a:=h.below (Below.refl _ _).drew
abbrev set11 (w:World) (b:Nat) (c0 c1 c2 c3 c4 c5 c6 c7 c8 c9 c10:Value):World:=(((((((((((w.setCell ⟨b,0,none⟩ c0).setCell ⟨b,1,none⟩ c1).setCell ⟨b,2,none⟩ c2).setCell ⟨b,3,none⟩ c3).setCell ⟨b,4,none⟩ c4).setCell ⟨b,5,none⟩ c5).setCell ⟨b,6,none⟩ c6).setCell ⟨b,7,none⟩ c7).setCell ⟨b,8,none⟩ c8).setCell ⟨b,9,none⟩ c9).setCell ⟨b,10,none⟩ c10)
theorem Below.set11 {B:Nat} {a w:World} (h:Below B a w) {b:Nat} (hb:B≤b) (c0 c1 c2 c3 c4 c5 c6 c7 c8 c9 c10:Value):Below B a (set11 w b c0 c1 c2 c3 c4 c5 c6 c7 c8 c9 c10):=
 (Below.setCell (p:=⟨b,10,none⟩) (Below.setCell (p:=⟨b,9,none⟩) (Below.setCell (p:=⟨b,8,none⟩) (Below.setCell (p:=⟨b,7,none⟩) (Below.setCell (p:=⟨b,6,none⟩) (Below.setCell (p:=⟨b,5,none⟩) (Below.setCell (p:=⟨b,4,none⟩) (Below.setCell (p:=⟨b,3,none⟩) (Below.setCell (p:=⟨b,2,none⟩) (Below.setCell (p:=⟨b,1,none⟩) (Below.setCell (p:=⟨b,0,none⟩) h hb _) hb _) hb _) hb _) hb _) hb _) hb _) hb _) hb _) hb _) hb _)
theorem fld103_1 (x0 x1 x2 x3:Value) (w:World):(Instr.field 67 (.agg #[x0,x1,x2,x3]) 1).run Tryz.prog w=.ok x1 w:=by kernel_rfl
theorem fld103_2 (x0 x1 x2 x3:Value) (w:World):(Instr.field 67 (.agg #[x0,x1,x2,x3]) 2).run Tryz.prog w=.ok x2 w:=by kernel_rfl
theorem fld103_3 (x0 x1 x2 x3:Value) (w:World):(Instr.field 67 (.agg #[x0,x1,x2,x3]) 3).run Tryz.prog w=.ok x3 w:=by kernel_rfl
theorem fld46_4 (x0 x1 x2 x3 x4 x5 x6 x7 x8 x9 x10:Value) (w:World):(Instr.field 28 (.agg #[x0,x1,x2,x3,x4,x5,x6,x7,x8,x9,x10]) 4).run Tryz.prog w=.ok x4 w:=by kernel_rfl
theorem node20 {w:World} {rb tb cap i:Nat} {t:Tk} {k a:Int} (h:Rd w rb tb cap t i k a) (q:Int):
 Calls Tryz.prog 17 #[.pointer (some ⟨rb,0,none⟩),.int .i64 q] w fun e w'=>e=.returned (.agg (nodeC q (t.pos i) 0 0 ⟨#[]⟩ (.slice none 0 0)))∧Below w.heap.size w w':=by
 have hl:=h.l
 have hfd:=fld103_1
 go_enter Tryz.func17,Tryz.ntmps17
 go_wp2_with (go_at_call 41;refine(tok38 (h.alloc _)).mono ?_;rintro e w1 ⟨rfl,hb1⟩;obtain⟨hc,hf⟩:=bcell hb1;have hz:w.heap.size<w1.heap.size:=(by have:=hb1.size;simp at this;omega))
 exact bodyPost_ret (v:=.agg (nodeC q (t.pos i) 0 0 ⟨#[]⟩ (.slice none 0 0))) (by simp[results,Tryz.results17,go_sem,hc]) rfl ⟨rfl,Below.set11 (((Below.refl _ _).alloc (Nat.le_refl _) _).trans (hb1.mono (by simp))) (Nat.le_refl _) _ _ _ _ _ _ _ _ _ _ _⟩
theorem Rd.setI {w:World} {rb tb cap i:Nat} {t:Tk} {k a:Int} (h:Rd w rb tb cap t i k a) {i':Nat} (hi:i'<t.len):Rd (w.setCell ⟨rb,1,none⟩ (.int .i64 i')) rb tb cap t i' k a:=by
 refine⟨?_,h.row.of_cells (Below.heap_setCell _ _ _ _ (fun e=>h.ne e.symm)),h.ne,h.good,hi⟩
 rw[heap_setCell_same w rb 1 _ 51 _ h.blk]
 rfl
theorem Rd.setF {w:World} {rb tb cap i:Nat} {t:Tk} {k a:Int} (h:Rd w rb tb cap t i k a) (k' a':Int):Rd ((w.setCell ⟨rb,2,none⟩ (.int .i64 k')).setCell ⟨rb,3,none⟩ (.int .i64 a')) rb tb cap t i k' a':=by
 have e1:(w.setCell ⟨rb,2,none⟩ (.int .i64 k')).heap[rb]? =some (.cells #[.slice (some ⟨tb,0,none⟩) t.len cap,.int .i64 i,.int .i64 k',.int .i64 a] 51 (0,0)):=by
  rw[heap_setCell_same w rb 2 _ 51 _ h.blk]
  rfl
 refine⟨?_,(h.row.of_cells (Below.heap_setCell _ _ _ _ (fun e=>h.ne e.symm))).of_cells (Below.heap_setCell _ _ _ _ (fun e=>h.ne e.symm)),h.ne,h.good,h.lt⟩
 rw[heap_setCell_same _ rb 3 _ 51 _ e1]
 rfl
end Go.Proofs.YtdplogkmkgekdaaGreatDoor
namespace Go.Proofs.YtdplogkmkgekdaaGreatDoor
open Go.RowKit
theorem isB_lt {t:Tk} {i:Nat} {k:Int} {s:ByteArray} (hg:t.Good) (hi:i<t.len) (h:isB t i k 0 s=true):k=0∧i+1<t.len:=by
 simp[isB] at h
 obtain⟨h1,h2,h3,h4⟩:=h
 refine⟨h1,?_⟩
 rcases Nat.lt_or_ge (i+1) t.len with h5|h5
 ·exact h5
 ·have e:i=t.len - 1:=by omega
  have hl:=hg.last
  rw[←e] at hl
  omega
theorem kindB_lt {t:Tk} {i:Nat} {k:Int} {q:Int} (hg:t.Good) (hi:i<t.len) (hq:q≠0) (h:kindB t i k 0 q=true):k=0∧i+1<t.len∧(t.kind i:Int)=q:=by
 simp[kindB] at h
 obtain⟨h1,h2,h3⟩:=h
 refine⟨h1,?_,h3⟩
 rcases Nat.lt_or_ge (i+1) t.len with h5|h5
 ·exact h5
 ·have e:i=t.len - 1:=by omega
  have hl:=hg.last
  rw[←e] at hl
  rw[hl] at h3
  exact absurd h3.symm hq
structure Nx (w:World) (rb tb cap:Nat) (t:Tk) (i:Nat) (k:Int) (must:Prop) (w':World) (i':Nat) (k' a':Int):Prop where
 rd:Rd w' rb tb cap t i' k' a'
 kp:Kp w.heap.size rb w w'
 le:i≤i'
 ok:k'=0→k=0
 go:must→k'=0→i<i'
structure Eaten (t:Tk) (s:ByteArray) (i:Nat) (k:Int) (b:Bool) (i':Nat):Prop where
 is_:b=isB t i k 0 s
 yes:b=true→i'=i+1∧k=0
 no:b=false→i'=i
theorem Eaten.le {t:Tk} {s:ByteArray} {i:Nat} {k:Int} {b:Bool} {i':Nat} (h:Eaten t s i k b i'):i≤i':=by
 cases b
 ·rw[h.no rfl];exact Nat.le_refl _
 ·rw[(h.yes rfl).1];omega
theorem eat42 {w:World} {rb tb cap i:Nat} {t:Tk} {k a:Int} (h:Rd w rb tb cap t i k a) (s:ByteArray):
 Calls Tryz.prog 45 #[.pointer (some ⟨rb,0,none⟩),.string s] w fun e w'=>∃b i',e=.returned (.bool b)∧Eaten t s i k b i'∧Rd w' rb tb cap t i' k a∧Kp w.heap.size rb w w':=by
 have hi:(i:Int)<(t.len:Int):=by have:=h.lt;omega
 have hfew:(t.len:Int)≤6001:=by have:=h.good.few;omega
 cases hb:isB t i k 0 s
 ·have HB:Hid (isB t i k 0 s=false):=hb
  go_enter Tryz.func45,Tryz.ntmps45
  go_wp2_with (go_at_call 44;refine(is41 h 0 (by omega) s).mono ?_;rintro e w1 ⟨rfl,hb1⟩)
  go_ret
  exact⟨false,i,rfl,⟨HB.out.symm,by simp,fun _=>rfl⟩,h.below hb1,Kp.of_below hb1⟩
 ·have HB:Hid (isB t i k 0 s=true):=hb
  obtain⟨hk,hlt⟩:=isB_lt h.good h.lt hb
  have HK:Hid (k=0):=hk
  clear hk
  go_enter Tryz.func45,Tryz.ntmps45
  go_wp2_with (go_at_call 44;refine(is41 h 0 (by omega) s).mono ?_;rintro e w1 ⟨rfl,hb1⟩;have h1:=h.below hb1;have r1:=h1.r1;have hl1:=h1.l;have f1:=h1.fz 1)
  go_ret
  refine⟨true,i+1,rfl,⟨HB.out.symm,fun _=>⟨rfl,HK.out⟩,by simp⟩,?_,?_⟩
  ·exact h1.setI hlt
  ·exact Kp.setCell (p:=⟨rb,1,none⟩) (Kp.of_below hb1) (.inr rfl) _
end Go.Proofs.YtdplogkmkgekdaaGreatDoor
namespace Go.Proofs.YtdplogkmkgekdaaGreatDoor
open Go.RowKit
def joinP:List (List UInt8)→List UInt8
 |[]=>[]
 |[n]=>n
 |n::m::r=>n++58::58::joinP (m::r)
def pathOK (most:Nat) (s:ByteArray):Prop:=∃ns,ns≠[]∧ns.length≤most∧(∀n∈ns,n≠[]∧(58:UInt8)∉n)∧s.toList=joinP ns
def tyK (x:Int):Prop:=13≤x∧x≤18
def noK (x:Int):Prop:=(13≤x∧x≤54)∧x≠35∧x≠45∧x≠47
theorem tyK.no {x:Int} (h:tyK x):noK x:=by unfold tyK at h;unfold noK;omega
def lab (kind n m:Int) (name:ByteArray) (len:Nat):Int:=
 if kind=8 then(if(len:Int)=n+3 then(if m=0 then 208 else 108) else(if m=0 then 8 else 308))
 else if kind=4 then(if name.size=0 then 104 else 4)
 else if kind=5 then(if name.size=0 then(if m=0 then 5 else -5) else 105)
 else if kind=12 then(if name.size=0 then -12 else 12)
 else if 100≤kind then -1 else kind
def lenOf:Value→Nat
 |.slice _ l _=>l
 |_=>0
def labOf:List Value→Int
 |.int _ k::_::.int _ n::.int _ m::.string s::kv::_=>lab k n m s (lenOf kv)
 |_=> -1
structure Gr (kind n m:Int) (name:ByteArray) (ks:List Int):Prop where
 prog:kind=0→∀x∈ks,x=1
 mod:kind=1→∀x∈ks,x=2∨x=3∨x=6∨x=7∨x=108∨x=208
 use:kind=2→m=0∧pathOK 2 name
 data:kind=3→(0≤m∧m≤3)∧(n=0∧ks=[9,104]∨n=1∧∃vs,ks=9::vs∧∀x∈vs,x=4)
 variant:kind=4→∀x∈ks,x=if name.size=0 then 105 else 5
 field:kind=5→∃x,ks=[x]∧tyK x
 trait:kind=6→(m=0∨m=1)∧∀x∈ks,x=8
 impl:kind=7→pathOK 2 name∧∃x fs,ks=9::x::fs∧tyK x∧∀f∈fs,f=208
 fn:kind=8→(m=0∨m=1)∧∃ps x rest,ks=9::(ps++x::rest)∧(ps.length:Int)=n∧(∀p∈ps,p=12)∧tyK x∧rest.length≤1∧∀y∈rest,noK y
 gens:kind=9→ks.length≤6100∧∀x∈ks,x=10∨x=11
 glife:kind=10→∀x∈ks,x=19
 gtype:kind=11→∀x∈ks,x=19∨x=18
 param:kind=12→∃x,ks=[x]∧tyK x
 tuple:kind=15→∀x∈ks,tyK x
 ref:kind=16→(n=0∨n=1)∧∃x,ks=[x]∧tyK x
 fnt:kind=17→ks≠[]∧∀x∈ks,tyK x
 path:kind=18→pathOK 2 name∧∃ls ts,ks=ls++ts∧(∀x∈ls,x=19)∧∀x∈ts,tyK x
 eint:kind=20→0≤n∧n≤9223372036854775807
 ebool:kind=21∨kind=52→n=0∨n=1
 all:kind=22∨kind=42∨kind=53→∀x∈ks,noK x
 pathed:kind=23∨kind=54→pathOK 3 name∧∀x∈ks,noK x
 call:kind=24→ks≠[]∧∀x∈ks,noK x
 part:kind=25→(0≤n∧n≤9223372036854775807)∧∃x,ks=[x]∧noK x
 one:kind=26∨kind=28∨kind=37∨kind=45→∃x,ks=[x]∧noK x
 lend:kind=27→(n=0∨n=1)∧∃x,ks=[x]∧noK x
 two:(29≤kind∧kind≤32)∨kind=35∨kind=36→∃x y,ks=[x,y]∧noK x∧noK y
 eif:kind=33→∃x y zs,ks=x::y::zs∧zs.length≤1∧noK x∧noK y∧∀z∈zs,noK z
 ematch:kind=34→∃x zs,ks=x::zs∧noK x∧∀z∈zs,z=35
 gives:kind=40→ks.length≤1∧∀x∈ks,noK x
 elet:kind=43→(∀x∈ks,noK x)∧(n=0∧ks.length=0∨(n=1∨n=2)∧ks.length=1∨n=3∧ks.length=2)
 make:kind=44→pathOK 2 name∧∃ts zs,ks=ts++zs∧(ts.length:Int)=m∧(∀x∈ts,noK x)∧∀z∈zs,z=45
 clos:kind=46→∃cs ps x y,ks=cs++(ps++[x,y])∧(cs.length:Int)=m∧(∀c∈cs,c=47)∧(∀p∈ps,p=12)∧noK x∧noK y
 spawn:kind=48→∃cs x y,ks=cs++[x,y]∧(cs.length:Int)=m∧(∀c∈cs,c=47)∧noK x∧noK y
 pint:kind=51→ -9223372036854775808≤n∧n≤9223372036854775807
def frK (kind:Int):Prop:=kind=13∨kind=14∨kind=19∨kind=38∨kind=39∨kind=41∨kind=47∨kind=49∨kind=50
theorem Gr.free {kind n m:Int} {name:ByteArray} {ks:List Int} (h:frK kind):Gr kind n m name ks:=by
 constructor<;>(intro e;exact absurd h (by unfold frK;omega))
def isNode (S:Nat→Prop) (g:Prop):Nat→World→List Value→Prop
 |0,_,_=>False
 |h+1,w,cs=>∃(kind pos n m:Int) (name:ByteArray) (kv:Value) (vs:List (List Value)),cs=(nodeC kind pos n m name kv).toList∧name.size≤20000∧(0≤pos∧pos≤7000)∧vs.length≤20000∧
  w.ownsRow 0 28 11 kv vs.length vs.flatten∧(∀b,kv.ownBlock=some b→S b)∧(∀x∈vs,isNode S g h w x)∧(g→Gr kind n m name (vs.map labOf))
def Same (S:Nat→Prop) (w w':World):Prop:=∀b,S b→b<w.heap.size→w'.heap[b]? =w.heap[b]?
theorem Same.mono {S S':Nat→Prop} {w w':World} (h:Same S w w') (hs:∀b,S' b→S b):Same S' w w':=fun b hb hl=>h b (hs b hb) hl
theorem Same.trans {S:Nat→Prop} {a b c:World} (h:Same S a b) (h':Same S b c) (hs:a.heap.size≤b.heap.size):Same S a c:=fun x hx hl=>(h' x hx (by omega)).trans (h x hx hl)
theorem Same.alloc (S:Nat→Prop) (w:World) (o:Obj):Same S w (w.alloc o):=fun _ _ hl=>Below.heap_alloc _ _ _ hl
theorem Same.setCell {S:Nat→Prop} (w:World) (p:Addr) (u:Value) (h:¬S p.block):Same S w (w.setCell p u):=fun _ hb _=>Below.heap_setCell _ _ _ _ (fun e=>h (e▸hb))
theorem Same.kp {S:Nat→Prop} {rb:Nat} {w w':World} (h:Kp w.heap.size rb w w') (hr:¬S rb):Same S w w':=fun b hb hl=>h.block b hl (fun e=>hr (e▸hb))
theorem Same.below {S:Nat→Prop} {w w':World} (h:Below w.heap.size w w'):Same S w w':=fun b _ hl=>h.block b hl
theorem Same.grown {S:Nat→Prop} {w w':World} {row:Option Nat} (h:w.grownBy w' row) (hr:∀b,row=some b→¬S b):Same S w w':=fun b hb hl=>h.block b hl (fun e=>hr b e.symm hb)
theorem ownsRow_same {w w':World} {base:Nat} {e:TypeId} {size:Nat} {v:Value} {n:Nat} {xs:List Value} (h:w.ownsRow base e size v n xs) (hs:∀b,v.ownBlock=some b→b<w.heap.size→w'.heap[b]? =w.heap[b]?):w'.ownsRow base e size v n xs:=by
 obtain⟨h1,h2⟩:=h
 refine⟨h1,?_⟩
 rcases h2 with h2|⟨g,cap,cur,hv,hbg,hg,rest⟩
 ·exact .inl h2
 ·have hlt:g<w.heap.size:=(Array.getElem?_eq_some_iff.1 hg).1
  exact .inr ⟨g,cap,cur,hv,hbg,by rw[hs g (by rw[hv];rfl) hlt];exact hg,rest⟩
theorem ownsRow_mono {w:World} {base base':Nat} {e:TypeId} {size:Nat} {v:Value} {n:Nat} {xs:List Value} (h:w.ownsRow base e size v n xs) (hb:base'≤base):w.ownsRow base' e size v n xs:=by
 obtain⟨h1,h2⟩:=h
 refine⟨h1,?_⟩
 rcases h2 with h2|⟨g,cap,cur,hv,hbg,rest⟩
 ·exact .inl h2
 ·exact .inr ⟨g,cap,cur,hv,by omega,rest⟩
theorem isNode.frame {S:Nat→Prop} {g:Prop} {w w':World} (hs:Same S w w'):(h:Nat)→(cs:List Value)→isNode S g h w cs→isNode S g h w' cs
 |0,_,hn=>hn
 |h+1,_,⟨kind,pos,n,m,name,kv,vs,h1,h2,h3,h3',h4,h5,h6,h7⟩=>
  ⟨kind,pos,n,m,name,kv,vs,h1,h2,h3,h3',ownsRow_same h4 (fun b hb hl=>hs b (h5 b hb) hl),h5,fun x hx=>isNode.frame hs h x (h6 x hx),h7⟩
theorem isNode.up {S:Nat→Prop} {g:Prop} {w:World}:(h:Nat)→(cs:List Value)→isNode S g h w cs→isNode S g (h+1) w cs
 |0,_,hn=>absurd hn (fun h=>h)
 |h+1,_,⟨kind,pos,n,m,name,kv,vs,h1,h2,h3,h3',h4,h5,h6,h7⟩=>
  ⟨kind,pos,n,m,name,kv,vs,h1,h2,h3,h3',h4,h5,fun x hx=>isNode.up h x (h6 x hx),h7⟩
theorem isNode.le {S:Nat→Prop} {g:Prop} {w:World} {cs:List Value} {h:Nat} (hn:isNode S g h w cs):(h':Nat)→h≤h'→isNode S g h' w cs
 |0,hl=>by
  obtain rfl:h=0:=by omega
  exact hn
 |h'+1,hl=>by
  rcases Nat.lt_or_ge h' h with hlt|hge
  ·obtain rfl:h=h'+1:=by omega
   exact hn
  ·exact isNode.up h' cs (isNode.le hn h' hge)
theorem isNode.weaken {S S':Nat→Prop} {g g':Prop} {w:World} (hs:∀b,S b→S' b) (hg:g'→g):(h:Nat)→(cs:List Value)→isNode S g h w cs→isNode S' g' h w cs
 |0,_,hn=>hn
 |h+1,_,⟨kind,pos,n,m,name,kv,vs,h1,h2,h3,h3',h4,h5,h6,h7⟩=>
  ⟨kind,pos,n,m,name,kv,vs,h1,h2,h3,h3',h4,fun b hb=>hs b (h5 b hb),fun x hx=>isNode.weaken hs hg h x (h6 x hx),fun hg'=>h7 (hg hg')⟩
def NodeIn (base:Nat) (g:Prop) (w:World) (cs:List Value):Prop:=∃h,isNode (fun b=>base≤b) g h w cs
structure Kids (base:Nat) (g:Prop) (w:World) (kv:Value) (vs:List (List Value)):Prop where
 row:w.ownsRow base 28 11 kv vs.length vs.flatten
 all:∃h,∀x∈vs,isNode (fun b=>base≤b∧kv.ownBlock≠some b) g h w x
theorem Kids.same {base:Nat} {g:Prop} {w w':World} {kv:Value} {vs:List (List Value)} (h:Kids base g w kv vs) (hs:Same (fun b=>base≤b) w w'):Kids base g w' kv vs:=by
 obtain⟨hr,n,ha⟩:=h
 exact⟨ownsRow_same hr (fun b hb hl=>hs b (hr.lt b hb).1 hl),n,fun x hx=>isNode.frame (hs.mono (fun b hb=>hb.1)) n x (ha x hx)⟩
theorem Kids.node {base:Nat} {g:Prop} {w:World} {kv:Value} {vs:List (List Value)} (h:Kids base g w kv vs) (hl:vs.length≤20000) {kind pos n m:Int} {name:ByteArray} (hn:name.size≤20000) (hp:0≤pos∧pos≤7000) (hG:g→Gr kind n m name (vs.map labOf)):
 NodeIn base g w (nodeC kind pos n m name kv).toList:=by
 obtain⟨hr,k,ha⟩:=h
 exact⟨k+1,kind,pos,n,m,name,kv,vs,rfl,hn,hp,hl,ownsRow_mono hr (Nat.zero_le _),fun b hb=>(hr.lt b hb).1,fun x hx=>isNode.weaken (fun b hb=>hb.1) (fun x=>x) k x (ha x hx),hG⟩
def Bd (N:Nat) (t:Tk) (i:Nat) (k:Int) (r:Nat):Prop:=(k=0→(t.len - i)*64+r≤N)∧r≤N
theorem Bd.down {N:Nat} {t:Tk} {i i':Nat} {k k':Int} {r r':Nat} (h:Bd (N+1) t i k r) (hi:i≤i') (hk:k'=0→k=0) (hr:r'<r):Bd N t i' k' r':=by
 refine⟨fun e=>?_,by have:=h.2;omega⟩
 have:=h.1 (hk e)
 have:(t.len - i')*64≤(t.len - i)*64:=Nat.mul_le_mul_right _ (by omega)
 omega
def ml (t:Tk) (j:Nat) (kj:Int):Nat:=2*(t.len - j)+if kj=0 then 1 else 0
theorem ml_lt {t:Tk} {j j':Nat} {kj':Int} (hj:j<t.len) (h:j≤j') (hg:kj'=0→j<j'):ml t j' kj'<ml t j 0:=by
 unfold ml
 by_cases e:kj'=0
 ·have:=hg e
  simp[e];omega
 ·simp[e];omega
theorem Rd.same {w w':World} {rb tb cap i:Nat} {t:Tk} {k a:Int} (h:Rd w rb tb cap t i k a) (h1:w'.heap[rb]? =w.heap[rb]?) (h2:w'.heap[tb]? =w.heap[tb]?):Rd w' rb tb cap t i k a:=
 ⟨by rw[h1];exact h.blk,h.row.of_cells h2,h.ne,h.good,h.lt⟩
theorem Rd.grown {w w':World} {rb tb cap i:Nat} {t:Tk} {k a:Int} (h:Rd w rb tb cap t i k a) {row:Option Nat} (hg:w.grownBy w' row) (h1:row≠some rb) (h2:row≠some tb):Rd w' rb tb cap t i k a:=
 h.same (hg.block rb h.l (fun e=>h1 e.symm)) (hg.block tb h.row.lt (fun e=>h2 e.symm))
theorem Rd.setCell {w:World} {rb tb cap i:Nat} {t:Tk} {k a:Int} (h:Rd w rb tb cap t i k a) {p:Addr} (h1:p.block≠rb) (h2:p.block≠tb) (u:Value):Rd (w.setCell p u) rb tb cap t i k a:=
 h.same (Below.heap_setCell _ _ _ _ (fun e=>h1 e.symm)) (Below.heap_setCell _ _ _ _ (fun e=>h2 e.symm))
theorem cells11_new (w:World) (kind pos n m:Int) (name:ByteArray) (kv:Value) (t:TypeId):∀j u,(nodeC kind pos n m name kv).toList[j]? =some u→(w.alloc (.cells (nodeC kind pos n m name kv) t)).cell? ((⟨w.heap.size,0,none⟩:Addr).add j)=some u:=by
 intro j u hj
 have hadd:(⟨w.heap.size,0,none⟩:Addr).add j=⟨w.heap.size,j,none⟩:=by unfold Addr.add;split<;>simp_all
 rw[hadd,cell_of_row _ w.heap.size j (nodeC kind pos n m name kv) t (0,0) (heap_alloc_new w _)]
 simpa using hj
theorem cells11_one {kind pos n m:Int} {name:ByteArray} {ko:Option Addr} {kl kc:Nat}:∀u∈(nodeC kind pos n m name (.slice ko kl kc)).toList,u.oneCell'=true:=by
 intro u hu
 simp at hu
 rcases hu with rfl|rfl|rfl|rfl|rfl|rfl|rfl|rfl|rfl|rfl<;>rfl
theorem Nx.below {w w':World} {rb tb cap i:Nat} {t:Tk} {k a:Int} (h:Rd w rb tb cap t i k a) (hb:Below w.heap.size w w'):Nx w rb tb cap t i k False w' i k a:=
 ⟨h.below hb,Kp.of_below hb,Nat.le_refl _,fun e=>e,fun e _=>absurd e (fun x=>x)⟩
end Go.Proofs.YtdplogkmkgekdaaGreatDoor
namespace Go.Proofs.YtdplogkmkgekdaaGreatDoor
open Go.RowKit
theorem info46:(Tryz.prog.info? 28).map (fun i=>(i.zero,i.size,i.bytes))=some (some (.agg (nodeC 0 0 0 0 ⟨#[]⟩ (.slice none 0 0))),11,160):=by kernel_rfl
theorem all_snoc {C:Int→Prop} {ks:List Int} {y:Int} (h:∀x∈ks,C x) (hy:C y):∀x∈ks++[y],C x:=by
 intro x hx
 rcases List.mem_append.1 hx with hx|hx
 ·exact h x hx
 ·obtain rfl:x=y:=by simpa using hx
  exact hy
end Go.Proofs.YtdplogkmkgekdaaGreatDoor
namespace Go.Proofs.YtdplogkmkgekdaaGreatDoor
open Go.RowKit
theorem joinP_snoc (ns:List (List UInt8)) (m:List UInt8) (h:ns≠[]):joinP (ns++[m])=joinP ns++58::58::m:=by
 induction ns with
 |nil=>exact absurd rfl h
 |cons a r ih=>
  cases r with
  |nil=>rfl
  |cons b r=>show a++58::58::joinP (b::r++[m])=(a++58::58::joinP (b::r))++_;rw[ih (by simp)];simp
theorem append_list (a b:ByteArray):(a++b).toList=a.toList++b.toList:=by
 rw[Lib.toList_data,Lib.toList_data,Lib.toList_data]
 simp[ByteArray.data_append]
theorem append_size (a b:ByteArray):(a++b).size=a.size+b.size:=by simp
structure PathL (w:World) (rb tb cap:Nat) (t:Tk) (i:Nat) (k:Int) (most:Nat) (wr:World) (s:ByteArray) (n:Nat) (j:Nat) (kj aj:Int):Prop where
 nx:Nx w rb tb cap t i k True wr j kj aj
 le:n≤most
 size:s.size≤6002*n
 ok:kj=0→∃ns,ns≠[]∧ns.length=n∧(∀n∈ns,n≠[]∧(58:UInt8)∉n)∧s.toList=joinP ns
def Blk (w:World) (b:Nat) (c:Array Value):Prop:=w.heap[b]? =some (.cells c 28 (0,0))
theorem Blk.cell {w:World} {b:Nat} {c:Array Value} (h:Blk w b c) (o:Nat):w.cell? ⟨b,o,none⟩=c[o]? :=cell_of_row w b o c 28 (0,0) h
theorem Blk.fz {w:World} {b:Nat} {c:Array Value} (h:Blk w b c) (o:Nat):w.frozen? ⟨b,o,none⟩=false:=frozen_of_row w b o c 28 h
theorem Blk.lt {w:World} {b:Nat} {c:Array Value} (h:Blk w b c):b<w.heap.size:=(Array.getElem?_eq_some_iff.1 h).1
theorem Blk.new (w:World) (c:Array Value):Blk (w.alloc (.cells c 28)) w.heap.size c:=heap_alloc_new w _
theorem Blk.alloc {w:World} {b:Nat} {c:Array Value} (h:Blk w b c) (o:Obj):Blk (w.alloc o) b c:=(Below.heap_alloc _ _ _ h.lt).trans h
theorem Blk.below {w w':World} {b:Nat} {c:Array Value} (h:Blk w b c) (hb:Below w.heap.size w w'):Blk w' b c:=(hb.block b h.lt).trans h
theorem Blk.kp {w w':World} {b rb:Nat} {c:Array Value} (h:Blk w b c) (hk:Kp w.heap.size rb w w') (hn:b≠rb):Blk w' b c:=(hk.block b h.lt hn).trans h
theorem Blk.grown {w w':World} {b:Nat} {c:Array Value} {row:Option Nat} (h:Blk w b c) (hg:w.grownBy w' row) (hn:some b≠row):Blk w' b c:=(hg.block b h.lt hn).trans h
theorem Blk.other {w:World} {b:Nat} {c:Array Value} (h:Blk w b c) {p:Addr} (hn:b≠p.block) (u:Value):Blk (w.setCell p u) b c:=(Below.heap_setCell _ _ _ _ hn).trans h
theorem Blk.set {w:World} {b:Nat} {c:Array Value} (h:Blk w b c) (o:Nat) (u:Value):Blk (w.setCell ⟨b,o,none⟩ u) b (c.setIfInBounds o u):=heap_setCell_same w b o c 28 u h
theorem Blk.drew {w:World} {b:Nat} {c:Array Value} (h:Blk w b c):Blk w.drew b c:=h
theorem Same.set11 {S:Nat→Prop} {w:World} {b:Nat} (h:¬S b) (c0 c1 c2 c3 c4 c5 c6 c7 c8 c9 c10:Value):Same S w (set11 w b c0 c1 c2 c3 c4 c5 c6 c7 c8 c9 c10):=
 (((((((((((Same.setCell w ⟨b,0,none⟩ c0 h).trans (Same.setCell _ ⟨b,1,none⟩ c1 h) (by simp)).trans (Same.setCell _ ⟨b,2,none⟩ c2 h) (by simp)).trans (Same.setCell _ ⟨b,3,none⟩ c3 h) (by simp)).trans (Same.setCell _ ⟨b,4,none⟩ c4 h) (by simp)).trans (Same.setCell _ ⟨b,5,none⟩ c5 h) (by simp)).trans (Same.setCell _ ⟨b,6,none⟩ c6 h) (by simp)).trans (Same.setCell _ ⟨b,7,none⟩ c7 h) (by simp)).trans (Same.setCell _ ⟨b,8,none⟩ c8 h) (by simp)).trans (Same.setCell _ ⟨b,9,none⟩ c9 h) (by simp)).trans (Same.setCell _ ⟨b,10,none⟩ c10 h) (by simp))
structure St (w:World) (rb tb cap:Nat) (t:Tk) (W:World) (j:Nat) (kj aj:Int):Prop where
 rd:Rd W rb tb cap t j kj aj
 kp:Kp w.heap.size rb w W
 lb:rb<w.heap.size
 lt:tb<w.heap.size
theorem Rd.st {w:World} {rb tb cap i:Nat} {t:Tk} {k a:Int} (h:Rd w rb tb cap t i k a):St w rb tb cap t w i k a:=⟨h,Kp.refl _ _ _,h.l,h.row.lt⟩
section
variable {w W:World} {rb tb cap j:Nat} {t:Tk} {kj aj:Int}
theorem St.size (h:St w rb tb cap t W j kj aj):w.heap.size≤W.heap.size:=h.kp.size
theorem St.rk (h:St w rb tb cap t W j kj aj) {w':World} {i':Nat} {k' a':Int} (h1:Rd w' rb tb cap t i' k' a') (h2:Kp W.heap.size rb W w'):St w rb tb cap t w' i' k' a':=⟨h1,h.kp.trans (h2.mono h.size),h.lb,h.lt⟩
theorem St.put (h:St w rb tb cap t W j kj aj) {b:Nat} (hb:w.heap.size≤b) (o:Nat) (u:Value):St w rb tb cap t (W.setCell ⟨b,o,none⟩ u) j kj aj:=⟨h.rd.setCell (p:=⟨b,o,none⟩) (by have:=h.lb;show b≠rb;omega) (by have:=h.lt;show b≠tb;omega) u,h.kp.setCell (p:=⟨b,o,none⟩) (.inl hb) u,h.lb,h.lt⟩
theorem St.grown (h:St w rb tb cap t W j kj aj) {w':World} {row:Option Nat} (hg:W.grownBy w' row) (hr:∀b,row=some b→w.heap.size≤b):St w rb tb cap t w' j kj aj:=
 ⟨h.rd.grown hg (fun e=>by have:=hr _ e;have:=h.lb;omega) (fun e=>by have:=hr _ e;have:=h.lt;omega),h.kp.grown hg h.size hr,h.lb,h.lt⟩
end
end Go.Proofs.YtdplogkmkgekdaaGreatDoor
