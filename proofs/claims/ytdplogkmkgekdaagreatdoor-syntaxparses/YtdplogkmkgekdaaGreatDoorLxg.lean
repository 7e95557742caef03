/- The table of signs, and how the first sign that fits is the sign at a place. -/
import Derived.Test.YtdplogkmkgekdaaGreatDoorPkd
import Derived.Test.YtdplogkmkgekdaaGreatDoorLxm
import Derived.Deep.MidRow
import Derived.WalkSmall
set_option linter.all false
set_option maxRecDepth 100000
set_option maxHeartbeats 4000000
namespace Go.Proofs.YtdplogkmkgekdaaGreatDoor
open Go.RowKit
structure Globals (w:World):Prop where
 words:∃tt fr,w.heap[1]? =some (.cells wordsC tt fr)
 range:∃ev,w.cell? ⟨5,0,none⟩=some ev∧(ev=.nilIface∨∃te pe,ev=.iface te pe)
 room:6≤w.heap.size
theorem Globals.below {w w':World} {B:Nat} (h:Globals w) (hb:Below B w w') (hB:6≤B):Globals w':=by
 obtain⟨⟨tt,fr,h1⟩,⟨ev,h2,h3⟩,h4⟩:=h
 exact⟨⟨tt,fr,by rw[hb.block 1 (by omega)];exact h1⟩,⟨ev,by rw[hb.cell (p:=⟨5,0,none⟩) (by simp;omega)];exact h2,h3⟩,by have:=hb.size;omega⟩
theorem Globals.alloc {w:World} (h:Globals w) (o:Obj):Globals (w.alloc o):=h.below ((Below.refl _ _).alloc (Nat.le_refl _) o) h.room
theorem let_zero {t:ByteArray} (h:letN (bat t 0)=true):0<t.size:=by
 rcases Nat.eq_zero_or_pos t.size with e|e
 ·rw[bat_out (by omega)] at h;simp[letN] at h
 ·exact e
def nameLen (t:ByteArray):Nat:=if letN (bat t 0) then runEnd namN t 0 else 0
theorem nameSize21 (t:ByteArray) (w:World) (hs:t.size≤6000):Calls Tryz.prog 57 #[.string t] w fun e w'=>e=.returned (.int .i64 (nameLen t))∧Below w.heap.size w w':=by
 cases hl:letN (bat t 0)
 ·have e:runEnd letN t 0=0:=runEnd_no hl
  have HE:Hid (nameLen t=0):=by show nameLen t=0;rw[nameLen,hl];simp
  have hz:((runEnd letN t 0:Int)==0)=true:=by rw[e];rfl
  clear hl e
  go_enter Tryz.func57,Tryz.ntmps57
  go_wp2_with (go_at_call 28;refine(span_let t _ hs).mono ?_;rintro e w1 ⟨rfl,hb1⟩)
  go_ret
  exact⟨by rw[HE.out];rfl,hb1⟩
 ·have h1:0<runEnd letN t 0:=runEnd_pos (let_zero hl) hl
  have HE:Hid (nameLen t=runEnd namN t 0):=by show nameLen t=_;rw[nameLen,hl];simp
  have hz:((runEnd letN t 0:Int)==0)=false:=by simp;omega
  clear hl
  go_enter Tryz.func57,Tryz.ntmps57
  go_wp2_with fail
  refine(span_let t _ hs).mono ?_
  rintro e w1 ⟨rfl,hb1⟩
  go_wp2_with fail
  refine(span_nam t _ hs).mono ?_
  rintro e w2 ⟨rfl,hb2⟩
  go_wp2_with fail
  go_ret
  exact⟨by rw[HE.out];rfl,hb1.trans (hb2.mono hb1.size)⟩
theorem tokBlock {w w1:World} {c0 c1 c2 c3:Value} (h:Below (w.heap.size+1) (w.alloc (.cells #[c0,c1,c2,c3] 67)) w1):
 w1.cell? ⟨w.heap.size,0,none⟩=some c0∧w1.cell? ⟨w.heap.size,1,none⟩=some c1∧w1.cell? ⟨w.heap.size,2,none⟩=some c2∧w1.cell? ⟨w.heap.size,3,none⟩=some c3∧
  w1.frozen? ⟨w.heap.size,0,none⟩=false∧w1.frozen? ⟨w.heap.size,1,none⟩=false∧w1.frozen? ⟨w.heap.size,2,none⟩=false∧w1.frozen? ⟨w.heap.size,3,none⟩=false:=by
 refine⟨?_,?_,?_,?_,?_,?_,?_,?_⟩
 ·rw[h.cell (p:=⟨w.heap.size,0,none⟩) (by simp)];simp
 ·rw[h.cell (p:=⟨w.heap.size,1,none⟩) (by simp)];simp
 ·rw[h.cell (p:=⟨w.heap.size,2,none⟩) (by simp)];simp
 ·rw[h.cell (p:=⟨w.heap.size,3,none⟩) (by simp)];simp
 ·rw[h.frozen (p:=⟨w.heap.size,0,none⟩) (by simp)];simp
 ·rw[h.frozen (p:=⟨w.heap.size,1,none⟩) (by simp)];simp
 ·rw[h.frozen (p:=⟨w.heap.size,2,none⟩) (by simp)];simp
 ·rw[h.frozen (p:=⟨w.heap.size,3,none⟩) (by simp)];simp
theorem below_four {w w1:World} {o:Obj} (h:Below (w.heap.size+1) (w.alloc o) w1) (a b c d:Value):
 Below w.heap.size w ((((w1.setCell ⟨w.heap.size,0,none⟩ a).setCell ⟨w.heap.size,1,none⟩ b).setCell ⟨w.heap.size,2,none⟩ c).setCell ⟨w.heap.size,3,none⟩ d):=
 ((((((Below.refl _ _).alloc (Nat.le_refl _) _).trans (h.mono (by simp))).setCell (by simp) _).setCell (by simp) _).setCell (by simp) _).setCell (by simp) _
def plainV (err kind:Nat) (t:ByteArray) (n size:Nat):Value:=.tuple #[.agg #[.int .i64 kind,.int .i64 0,.string t,.int .i64 n],.int .i64 size,.int .i64 err]
theorem number20_ok (d:ByteArray) (w:World) (hs:d.size≤6000) (h0:0<d.size) (hd:∀j,j<d.size→digN (bat d j)=true) (hm:numVal d 0 d.size≤9223372036854775807):
 Calls Tryz.prog 56 #[.string d] w fun e w'=>e=.returned (plainV 0 1 ⟨#[]⟩ (numVal d 0 d.size) d.size)∧Below w.heap.size w w':=by
 have ha:=atoi_digits d h0 hd
 clear hd
 rw[if_pos hm] at ha
 have HA:Hid (Lib.atoiAll d.data.toList=.ok (numVal d 0 d.size:Nat)):=ha
 clear ha hm
 go_enter Tryz.func56,Tryz.ntmps56
 go_wp2_with fail
 refine(Tryz.strconv_Atoi_ok d (by omega) _ HA.out _).mono ?_
 rintro e w1 ⟨rfl,hw1⟩
 have hb1:Below (w.heap.size+1) (w.alloc (.cells #[.int .i64 0,.int .i64 0,.string ⟨#[]⟩,.int .i64 0] 67)) w1:=by
  rcases hw1 with rfl|⟨t,rfl⟩
  ·exact Below.refl _ _
  ·exact(Lib.bytesWorld_below _ _ _).mono (by simp)
 clear hw1
 obtain⟨f0,f1,f2,f3,g0,g1,g2,g3⟩:=tokBlock hb1
 go_wp2_with fail
 exact bodyPost_ret (v:=plainV 0 1 ⟨#[]⟩ (numVal d 0 d.size) d.size) (by simp[results,Tryz.results56,go_sem,plainV,f0,f1,f2,f3]) rfl ⟨rfl,below_four hb1 _ _ _ _⟩
theorem number20_big (d:ByteArray) (w:World) (hs:d.size≤6000) (h0:0<d.size) (hd:∀j,j<d.size→digN (bat d j)=true) (hm:¬numVal d 0 d.size≤9223372036854775807) (hG:Globals w):
 Calls Tryz.prog 56 #[.string d] w fun e w'=>e=.returned (plainV 3 0 ⟨#[]⟩ 0 0)∧Below w.heap.size w w':=by
 have ha:=atoi_digits d h0 hd
 clear hd
 rw[if_neg hm] at ha
 have HA:Hid (Lib.atoiAll d.data.toList=.range):=ha
 clear ha hm
 obtain⟨ev,hev1,hev2⟩:=(hG.alloc (.cells #[.int .i64 0,.int .i64 0,.string ⟨#[]⟩,.int .i64 0] 67)).range
 go_enter Tryz.func56,Tryz.ntmps56
 go_wp2_with fail
 refine(Tryz.strconv_Atoi_range d (by omega) HA.out ev _ hev1 hev2).mono ?_
 rintro e w1 ⟨n,rfl,hn1,hn2,hb⟩
 have hb1:Below (w.heap.size+1) (w.alloc (.cells #[.int .i64 0,.int .i64 0,.string ⟨#[]⟩,.int .i64 0] 67)) w1:=hb.mono (by simp)
 clear hev1 hev2 hn1 hn2 hb
 obtain⟨f0,f1,f2,f3,g0,g1,g2,g3⟩:=tokBlock hb1
 go_wp2_with fail
 exact bodyPost_ret (v:=plainV 3 0 ⟨#[]⟩ 0 0) (by simp[results,Tryz.results56,go_sem,plainV,f0,f1,f2,f3]) rfl ⟨rfl,below_four hb1 _ _ _ _⟩
theorem life23 (t:ByteArray) (w:World) (hs:t.size≤6000) (h0:0<t.size):
 Calls Tryz.prog 59 #[.string t] w fun e w'=>e=.returned (if 21<t.size then plainV 3 0 ⟨#[]⟩ 0 0 else plainV 0 4 t 0 t.size)∧Below w.heap.size w w':=by
 by_cases h:21<t.size
 ·rw[if_pos h]
  have h':(20:Int)<(t.size:Int) - 1:=by omega
  go_enter Tryz.func59,Tryz.ntmps59
  go_wp2_with fail
  exact bodyPost_ret (v:=plainV 3 0 ⟨#[]⟩ 0 0) (by simp[results,Tryz.results59,go_sem,plainV]) rfl ⟨rfl,(Below.refl _ _).alloc (Nat.le_refl _) _⟩
 ·rw[if_neg h]
  have h':¬(20:Int)<(t.size:Int) - 1:=by omega
  go_enter Tryz.func59,Tryz.ntmps59
  go_wp2_with fail
  exact bodyPost_ret (v:=plainV 0 4 t 0 t.size) (by simp[results,Tryz.results59,go_sem,plainV]) rfl ⟨rfl,(Below.refl _ _).alloc (Nat.le_refl _) _⟩
theorem name22 (t:ByteArray) (w:World) (hs:t.size≤6000) (hG:Globals w):
 Calls Tryz.prog 58 #[.string t] w fun e w'=>e=.returned (if isWord t.toList then plainV 0 3 t 0 t.size else if 20<t.size then plainV 3 0 ⟨#[]⟩ 0 0 else plainV 0 2 t 0 t.size)∧Below w.heap.size w w':=by
 obtain⟨tt,fr,hg⟩:=(hG.alloc (.cells #[.int .i64 0,.int .i64 0,.string ⟨#[]⟩,.int .i64 0] 67)).words
 have HG:Hid ((w.alloc (.cells #[.int .i64 0,.int .i64 0,.string ⟨#[]⟩,.int .i64 0] 67)).heap[1]? =some (.cells wordsC tt fr)):=hg
 clear hg
 cases hw:isWord t.toList
 ·rw[if_neg (by simp)]
  by_cases h:20<t.size
  ·rw[if_pos h]
   have h':(20:Int)<(t.size:Int):=by omega
   go_enter Tryz.func58,Tryz.ntmps58
   go_wp2_with (go_at_call 134;refine(word9 t _ tt fr HG.out).mono ?_;rintro e w' ⟨rfl,rfl⟩)
   exact bodyPost_ret (v:=plainV 3 0 ⟨#[]⟩ 0 0) (by simp[results,Tryz.results58,go_sem,plainV]) rfl ⟨rfl,(Below.refl _ _).alloc (Nat.le_refl _) _⟩
  ·rw[if_neg h]
   have h':¬(20:Int)<(t.size:Int):=by omega
   go_enter Tryz.func58,Tryz.ntmps58
   go_wp2_with (go_at_call 134;refine(word9 t _ tt fr HG.out).mono ?_;rintro e w' ⟨rfl,rfl⟩)
   exact bodyPost_ret (v:=plainV 0 2 t 0 t.size) (by simp[results,Tryz.results58,go_sem,plainV]) rfl ⟨rfl,(Below.refl _ _).alloc (Nat.le_refl _) _⟩
 ·rw[if_pos rfl]
  go_enter Tryz.func58,Tryz.ntmps58
  go_wp2_with (go_at_call 134;refine(word9 t _ tt fr HG.out).mono ?_;rintro e w' ⟨rfl,rfl⟩)
  exact bodyPost_ret (v:=plainV 0 3 t 0 t.size) (by simp[results,Tryz.results58,go_sem,plainV]) rfl ⟨rfl,(Below.refl _ _).alloc (Nat.le_refl _) _⟩
end Go.Proofs.YtdplogkmkgekdaaGreatDoor
namespace Go.Proofs.YtdplogkmkgekdaaGreatDoor.Pj
open Go.RowKit
theorem tokP {w:World} {rb tb i:Nat} {cap:Cp} {t:Tk} (h:Rd w rb tb cap t i 0 0):
 Calls Tryz.prog 38 #[.pointer (some ⟨rb,0,none⟩)] w fun e w'=>e=.returned (.agg #[.int .i64 (t.kind i),.int .i64 (t.pos i),.string (t.text i),.int .i64 (t.num i)])∧Below w.heap.size w w':=by
 have r0:=h.r0
 have r1:=h.r1
 have hl:=h.l
 have hlt:=h.row.lt
 have e0:=h.row.c0 i h.lt
 have e1:=h.row.c1 i h.lt
 have e2:=h.row.c2 i h.lt
 have e3:=h.row.c3 i h.lt
 have hi:(i:Int)<(t.len:Int):=by have:=h.lt;omega
 go_enter Tryz.func38,Tryz.ntmps38
 go_wp2_with fail
 go_region
 all_goals
  go_wp2_with fail
  exact bodyPost_ret (v:=.agg #[.int .i64 (t.kind i),.int .i64 (t.pos i),.string (t.text i),.int .i64 (t.num i)]) (by simp[results,Tryz.results38,go_sem]) rfl ⟨rfl,((Below.refl _ _).alloc (Nat.le_refl _) _).drew⟩
theorem behindP {w:World} {rb tb i:Nat} {cap:Cp} {t:Tk} (h:Rd w rb tb cap t i 0 0) (hi1:i+1<t.len):
 Calls Tryz.prog 166 #[.pointer (some ⟨rb,0,none⟩)] w fun e w'=>e=.returned (.agg #[.int .i64 (t.kind (i+1)),.int .i64 (t.pos (i+1)),.string (t.text (i+1)),.int .i64 (t.num (i+1))])∧Below w.heap.size w w':=by
 have r0:=h.r0
 have r1:=h.r1
 have hl:=h.l
 have hlt:=h.row.lt
 have e0:=h.row.c0 (i+1) hi1
 have e1:=h.row.c1 (i+1) hi1
 have e2:=h.row.c2 (i+1) hi1
 have e3:=h.row.c3 (i+1) hi1
 have hfew:(t.len:Int)≤6001:=by have:=h.good.few;omega
 have hi:(i:Int)+1<(t.len:Int):=by omega
 go_enter Tryz.func166,Tryz.ntmps166
 go_wp2_with fail
 go_region
 all_goals
  go_wp2_with fail
  exact bodyPost_ret (v:=.agg #[.int .i64 (t.kind (i+1)),.int .i64 (t.pos (i+1)),.string (t.text (i+1)),.int .i64 (t.num (i+1))]) (by simp[results,Tryz.results166,go_sem]) rfl ⟨rfl,((Below.refl _ _).alloc (Nat.le_refl _) _).drew⟩
theorem fld67_0 (x0 x1 x2 x3:Value) (w:World):(Instr.field 67 (.agg #[x0,x1,x2,x3]) 0).run Tryz.prog w=.ok x0 w:=by kernel_rfl
theorem isB_text {t:Tk} {i:Nat} (hc:Clean t) (hi:i<t.len) {s:ByteArray} (hs:s∈askS):isB t i 0 0 s=((t.text i).toList==s.toList):=by
 unfold isB
 have h1:decide (i+0<t.len)=true:=by simpa using hi
 rw[h1,Nat.add_zero]
 rcases hc i with h|h
 ·have h2:(t.kind i==5||t.kind i==3)=true:=by rcases h with⟨h,_⟩|h<;>simp[h]
  rw[h2]
  rfl
 ·have h2:((t.text i).toList==s.toList)=false:=by simpa using h s hs
  rw[h2]
  simp
theorem isP {w:World} {rb tb i:Nat} {cap:Cp} {t:Tk} (h:Rd w rb tb cap t i 0 0) (s:ByteArray) (hs:s∈askS):
 Calls Tryz.prog 89 #[.pointer (some ⟨rb,0,none⟩),.string s] w fun e w'=>e=.returned (.bool (isB t i 0 0 s))∧Below w.heap.size w w':=by
 have HE:Hid (isB t i 0 0 s=((t.text i).toList==s.toList)):=isB_text h.cl h.lt hs
 clear hs
 have hfd:=fld103_2
 go_enter Tryz.func89,Tryz.ntmps89
 go_wp2_with (go_at_call 38;refine(tokP h).mono ?_;rintro e w1 ⟨rfl,hb1⟩)
 go_ret
 exact⟨by rw[HE.out];rfl,hb1⟩
theorem set4 {w:World} {b:Nat} {a0 a1 a2 a3:Value} (hB:w.heap[b]? =some (.cells #[a0,a1,a2,a3] 67 (0,0))) (c0 c1 c2 c3:Value):((((w.setCell ⟨b,0,none⟩ c0).setCell ⟨b,1,none⟩ c1).setCell ⟨b,2,none⟩ c2).setCell ⟨b,3,none⟩ c3).heap[b]? =some (.cells #[c0,c1,c2,c3] 67 (0,0)):=by
 have e0:(w.setCell ⟨b,0,none⟩ c0).heap[b]? =some (.cells #[c0,a1,a2,a3] 67 (0,0)):=by rw[heap_setCell_same _ b 0 _ 67 _ hB];rfl
 have e1:((w.setCell ⟨b,0,none⟩ c0).setCell ⟨b,1,none⟩ c1).heap[b]? =some (.cells #[c0,c1,a2,a3] 67 (0,0)):=by rw[heap_setCell_same _ b 1 _ 67 _ e0];rfl
 have e2:(((w.setCell ⟨b,0,none⟩ c0).setCell ⟨b,1,none⟩ c1).setCell ⟨b,2,none⟩ c2).heap[b]? =some (.cells #[c0,c1,c2,a3] 67 (0,0)):=by rw[heap_setCell_same _ b 2 _ 67 _ e1];rfl
 rw[heap_setCell_same _ b 3 _ 67 _ e2]
 rfl
theorem results_tok {fn:Func} {r:Nat} (hf:fn.results=#[.cell r 67]) {tmps:Array Value} {b:Nat} (ht:tmps.getD r undef=.pointer (some ⟨b,0,none⟩)) {W:World} {c0 c1 c2 c3:Value} (hB:W.heap[b]? =some (.cells #[c0,c1,c2,c3] 67 (0,0))):
 (results fn tmps).run Tryz.prog W=.ok (.agg #[c0,c1,c2,c3]) W:=by
 have hc:∀o,W.cell? ⟨b,o,none⟩=(#[c0,c1,c2,c3]:Array Value)[o]? :=fun o=>cell_of_row W b o _ 67 (0,0) hB
 have ht':tmps[r]?.getD undef=.pointer (some ⟨b,0,none⟩):=by simpa using ht
 simp[results,hf,ht',go_sem,hc]
theorem take_nx {w w1:World} {rb tb i b:Nat} {cap:Cp} {t:Tk} {x c0 c1 c2 c3:Value} {B:Obj} (HH:Rd w1 rb tb cap t i 0 0) (HK:Kp w.heap.size rb w w1) (HI:i+1<t.len) (hx:x=.int .i64 ((i+1:Nat):Int)) (hw:w.heap.size≤w1.heap.size) (hb:w.heap.size≤b) (hr:rb<b) {a0 a1 a2 a3:Value} (hB:w1.heap[b]? =some (.cells #[a0,a1,a2,a3] 67 (0,0))):
 Nx w rb tb cap t i 0 True ((((((w1.setCell ⟨rb,1,none⟩ x).setCell ⟨b,0,none⟩ c0).setCell ⟨b,1,none⟩ c1).setCell ⟨b,2,none⟩ c2).setCell ⟨b,3,none⟩ c3).alloc B) (i+1) 0 0∧
 ((((((w1.setCell ⟨rb,1,none⟩ x).setCell ⟨b,0,none⟩ c0).setCell ⟨b,1,none⟩ c1).setCell ⟨b,2,none⟩ c2).setCell ⟨b,3,none⟩ c3).alloc B).heap[b]? =some (.cells #[c0,c1,c2,c3] 67 (0,0)):=by
 subst hx
 have hlt1:b<w1.heap.size:=(Array.getElem?_eq_some_iff.1 hB).1
 have hz5:(w1.setCell ⟨rb,1,none⟩ (.int .i64 (i+1:Nat))).heap[b]? =some (.cells #[a0,a1,a2,a3] 67 (0,0)):=(Below.heap_setCell _ _ _ _ (by show b≠rb;omega)).trans hB
 refine⟨⟨?_,?_,by omega,fun e=>e,fun _ _=>by omega⟩,(Below.heap_alloc _ _ _ (by simpa using hlt1)).trans (set4 hz5 _ _ _ _)⟩
 ·have h1:=HH.setI HI
  have h2:=h1.setCell (p:=⟨b,0,none⟩) hr c0
  have h3:=h2.setCell (p:=⟨b,1,none⟩) hr c1
  have h4:=h3.setCell (p:=⟨b,2,none⟩) hr c2
  exact(h4.setCell (p:=⟨b,3,none⟩) hr c3).alloc B
 ·have h1:=Kp.setCell (p:=⟨rb,1,none⟩) HK (.inr rfl) (.int .i64 (i+1:Nat))
  have h2:=Kp.setCell (p:=⟨b,0,none⟩) h1 (.inl hb) c0
  have h3:=Kp.setCell (p:=⟨b,1,none⟩) h2 (.inl hb) c1
  have h4:=Kp.setCell (p:=⟨b,2,none⟩) h3 (.inl hb) c2
  exact(Kp.setCell (p:=⟨b,3,none⟩) h4 (.inl hb) c3).alloc (by simpa using hw) B
theorem takeP {w:World} {rb tb i:Nat} {cap:Cp} {t:Tk} (h:Rd w rb tb cap t i 0 0) (hi1:i+1<t.len):
 Calls Tryz.prog 145 #[.pointer (some ⟨rb,0,none⟩)] w fun e w'=>e=.returned (.agg #[.int .i64 (t.kind i),.int .i64 (t.pos i),.string (t.text i),.int .i64 (t.num i)])∧Nx w rb tb cap t i 0 True w' (i+1) 0 0:=by
 have hfew:(t.len:Int)≤6001:=by have:=h.good.few;omega
 have hi:(i:Int)+1<(t.len:Int):=by omega
 have HI:Hid (i+1<t.len):=hi1
 clear hi1
 go_enter Tryz.func145,Tryz.ntmps145
 have h0:=h.alloc (.cells #[.int .i64 0,.int .i64 0,.string ⟨#[]⟩,.int .i64 0] 67)
 have hrl:=h.l
 have hrb:rb<w.heap.size:=h.l
 go_wp2_with fail
 refine(tokP h0).mono ?_
 rintro e w1 ⟨rfl,hb1⟩
 have hsz:=hb1.size
 have hz:w1.heap[w.heap.size]? =some (.cells #[.int .i64 0,.int .i64 0,.string ⟨#[]⟩,.int .i64 0] 67 (0,0)):=(hb1.block _ (by simp)).trans (heap_alloc_new w _)
 have h1:=h0.below hb1
 have hlt1:w.heap.size<w1.heap.size:=(Array.getElem?_eq_some_iff.1 hz).1
 have HK:Hid (Kp w.heap.size rb w w1):=Kp.of_below (((Below.refl _ _).alloc (Nat.le_refl _) _).trans (hb1.mono (by simp)))
 have HH:Hid (Rd w1 rb tb cap t i 0 0):=h1
 have ct:∀o,(w1.alloc (.cells #[.int .i64 (t.kind i),.int .i64 (t.pos i),.string (t.text i),.int .i64 (t.num i)] 67)).cell? ⟨w1.heap.size,o,none⟩=(#[.int .i64 (t.kind i),.int .i64 (t.pos i),.string (t.text i),.int .i64 (t.num i)]:Array Value)[o]? :=fun o=>cell_of_row _ _ o _ 67 (0,0) (heap_alloc_new w1 _)
 have cz:∀o,w1.cell? ⟨w.heap.size,o,none⟩=(#[.int .i64 0,.int .i64 0,.string ⟨#[]⟩,.int .i64 0]:Array Value)[o]? :=fun o=>cell_of_row _ _ o _ 67 (0,0) hz
 have fz:∀o,w1.frozen? ⟨w.heap.size,o,none⟩=false:=fun o=>frozen_of_row _ _ o _ 67 hz
 have r1:=h1.r1
 have f1:=h1.fz 1
 have l1:=h1.l
 have n1:rb≠w1.heap.size:=by omega
 have n2:w1.heap.size≠rb:=by omega
 have n3:w.heap.size≠rb:=by omega
 have n4:rb≠w.heap.size:=by omega
 have n5:w1.heap.size≠w.heap.size:=by omega
 have n6:w.heap.size≠w1.heap.size:=by omega
 have HZ:Hid (w1.heap[w.heap.size]? =some (.cells #[.int .i64 0,.int .i64 0,.string ⟨#[]⟩,.int .i64 0] 67 (0,0))):=hz
 clear hz h0 h1 hsz
 go_wp2_with fail
 go_light
 have hk:=take_nx (w:=w) (B:=.cells #[.int .i64 (t.kind i),.int .i64 (t.pos i),.string (t.text i),.int .i64 (t.num i)] 67) (x:=.int .i64 (↑i +1)) (c0:=.int .i64 (t.kind i)) (c1:=.int .i64 (t.pos i)) (c2:=.string (t.text i)) (c3:=.int .i64 (t.num i)) HH.out HK.out HI.out (by simp) (Nat.le_of_lt hlt1) (Nat.le_refl _) hrb HZ.out
 exact bodyPost_ret (v:=.agg #[.int .i64 (t.kind i),.int .i64 (t.pos i),.string (t.text i),.int .i64 (t.num i)]) (results_tok rfl (by rfl) hk.2) rfl ⟨rfl,hk.1⟩
end Go.Proofs.YtdplogkmkgekdaaGreatDoor.Pj
namespace Go.Proofs.YtdplogkmkgekdaaGreatDoor
def signsB:List ByteArray:=[⟨#[58,58]⟩,⟨#[45,62]⟩,⟨#[61,62]⟩,⟨#[61,61]⟩,⟨#[33,61]⟩,⟨#[60,61]⟩,⟨#[62,61]⟩,⟨#[38,38]⟩,⟨#[124,124]⟩,⟨#[40]⟩,⟨#[41]⟩,⟨#[123]⟩,⟨#[125]⟩,⟨#[91]⟩,⟨#[93]⟩,⟨#[60]⟩,⟨#[62]⟩,⟨#[44]⟩,⟨#[59]⟩,⟨#[58]⟩,⟨#[46]⟩,⟨#[61]⟩,⟨#[43]⟩,⟨#[45]⟩,⟨#[42]⟩,⟨#[47]⟩,⟨#[37]⟩,⟨#[38]⟩,⟨#[33]⟩,⟨#[95]⟩]
def signsC:Array Value:=(signsB.map Value.string).toArray
def signAt (k:Nat):ByteArray:=signsB.getD k ByteArray.empty
theorem index_signs (w:World):(k:Nat)→k<30→(Instr.index 70 (.agg signsC) (.int .i64 k)).run Tryz.prog w=.ok (.string (signAt k)) w
 |0,_=>by kernel_rfl
 |1,_=>by kernel_rfl
 |2,_=>by kernel_rfl
 |3,_=>by kernel_rfl
 |4,_=>by kernel_rfl
 |5,_=>by kernel_rfl
 |6,_=>by kernel_rfl
 |7,_=>by kernel_rfl
 |8,_=>by kernel_rfl
 |9,_=>by kernel_rfl
 |10,_=>by kernel_rfl
 |11,_=>by kernel_rfl
 |12,_=>by kernel_rfl
 |13,_=>by kernel_rfl
 |14,_=>by kernel_rfl
 |15,_=>by kernel_rfl
 |16,_=>by kernel_rfl
 |17,_=>by kernel_rfl
 |18,_=>by kernel_rfl
 |19,_=>by kernel_rfl
 |20,_=>by kernel_rfl
 |21,_=>by kernel_rfl
 |22,_=>by kernel_rfl
 |23,_=>by kernel_rfl
 |24,_=>by kernel_rfl
 |25,_=>by kernel_rfl
 |26,_=>by kernel_rfl
 |27,_=>by kernel_rfl
 |28,_=>by kernel_rfl
 |29,_=>by kernel_rfl
 |k+30,h=>absurd h (by omega)
def signHit (s:ByteArray) (i k:Nat):Bool:=Lib.hasPrefix (s.extract i s.size).data.toList (signAt k).data.toList
theorem rest_list (s:ByteArray) (i:Nat):(s.extract i s.size).data.toList=s.data.toList.drop i:=by
 rw[Lib.extract_data,List.take_of_length_le (by simp)]
theorem pre_one (s:ByteArray) (i:Nat) (hi:i<s.size) (a:UInt8):Lib.hasPrefix (s.extract i s.size).data.toList [a]=(bat s i==a.toNat):=by
 rw[rest_list,List.drop_eq_getElem_cons (by simpa using hi),bat_eq hi,Bool.eq_iff_iff]
 have e:(s.data.toList)[i]'(by simpa using hi)=s[i]'hi:=rfl
 rw[e]
 simp only[Lib.hasPrefix,List.isPrefixOf,Bool.and_true,beq_iff_eq,UInt8.toNat_inj]
 exact eq_comm
theorem pre_two (s:ByteArray) (i:Nat) (hi:i<s.size) (a b:UInt8) (hb:b≠0):Lib.hasPrefix (s.extract i s.size).data.toList [a,b]=((bat s i,bat s (i+1))==(a.toNat,b.toNat)):=by
 have hb':b.toNat≠0:=fun h=>hb (UInt8.toNat_inj.1 h)
 have e:(s.data.toList)[i]'(by simpa using hi)=s[i]'hi:=rfl
 rw[rest_list,List.drop_eq_getElem_cons (by simpa using hi),bat_eq hi,e]
 by_cases h:i+1<s.size
 ·have e2:(s.data.toList)[i+1]'(by simpa using h)=s[i+1]'h:=rfl
  rw[List.drop_eq_getElem_cons (by simpa using h),bat_eq h,e2,Bool.eq_iff_iff]
  simp only[Lib.hasPrefix,List.isPrefixOf,Bool.and_true,Bool.and_eq_true,beq_iff_eq,Prod.mk.injEq,UInt8.toNat_inj]
  constructor<;>(rintro⟨h1,h2⟩;exact⟨h1.symm,h2.symm⟩)
 ·rw[List.drop_eq_nil_of_le (by simp;omega),bat_out h,Bool.eq_iff_iff]
  simp[Lib.hasPrefix]
  intro _;omega
theorem hit0 (s:ByteArray) (i:Nat) (hi:i<s.size):signHit s i 0=((bat s i,bat s (i+1))==(58,58)):=pre_two s i hi 58 58 (by decide)
theorem hit1 (s:ByteArray) (i:Nat) (hi:i<s.size):signHit s i 1=((bat s i,bat s (i+1))==(45,62)):=pre_two s i hi 45 62 (by decide)
theorem hit2 (s:ByteArray) (i:Nat) (hi:i<s.size):signHit s i 2=((bat s i,bat s (i+1))==(61,62)):=pre_two s i hi 61 62 (by decide)
theorem hit3 (s:ByteArray) (i:Nat) (hi:i<s.size):signHit s i 3=((bat s i,bat s (i+1))==(61,61)):=pre_two s i hi 61 61 (by decide)
theorem hit4 (s:ByteArray) (i:Nat) (hi:i<s.size):signHit s i 4=((bat s i,bat s (i+1))==(33,61)):=pre_two s i hi 33 61 (by decide)
theorem hit5 (s:ByteArray) (i:Nat) (hi:i<s.size):signHit s i 5=((bat s i,bat s (i+1))==(60,61)):=pre_two s i hi 60 61 (by decide)
theorem hit6 (s:ByteArray) (i:Nat) (hi:i<s.size):signHit s i 6=((bat s i,bat s (i+1))==(62,61)):=pre_two s i hi 62 61 (by decide)
theorem hit7 (s:ByteArray) (i:Nat) (hi:i<s.size):signHit s i 7=((bat s i,bat s (i+1))==(38,38)):=pre_two s i hi 38 38 (by decide)
theorem hit8 (s:ByteArray) (i:Nat) (hi:i<s.size):signHit s i 8=((bat s i,bat s (i+1))==(124,124)):=pre_two s i hi 124 124 (by decide)
theorem hit9 (s:ByteArray) (i:Nat) (hi:i<s.size):signHit s i 9=(bat s i==40):=pre_one s i hi 40
theorem hit10 (s:ByteArray) (i:Nat) (hi:i<s.size):signHit s i 10=(bat s i==41):=pre_one s i hi 41
theorem hit11 (s:ByteArray) (i:Nat) (hi:i<s.size):signHit s i 11=(bat s i==123):=pre_one s i hi 123
theorem hit12 (s:ByteArray) (i:Nat) (hi:i<s.size):signHit s i 12=(bat s i==125):=pre_one s i hi 125
theorem hit13 (s:ByteArray) (i:Nat) (hi:i<s.size):signHit s i 13=(bat s i==91):=pre_one s i hi 91
theorem hit14 (s:ByteArray) (i:Nat) (hi:i<s.size):signHit s i 14=(bat s i==93):=pre_one s i hi 93
theorem hit15 (s:ByteArray) (i:Nat) (hi:i<s.size):signHit s i 15=(bat s i==60):=pre_one s i hi 60
theorem hit16 (s:ByteArray) (i:Nat) (hi:i<s.size):signHit s i 16=(bat s i==62):=pre_one s i hi 62
theorem hit17 (s:ByteArray) (i:Nat) (hi:i<s.size):signHit s i 17=(bat s i==44):=pre_one s i hi 44
theorem hit18 (s:ByteArray) (i:Nat) (hi:i<s.size):signHit s i 18=(bat s i==59):=pre_one s i hi 59
theorem hit19 (s:ByteArray) (i:Nat) (hi:i<s.size):signHit s i 19=(bat s i==58):=pre_one s i hi 58
theorem hit20 (s:ByteArray) (i:Nat) (hi:i<s.size):signHit s i 20=(bat s i==46):=pre_one s i hi 46
theorem hit21 (s:ByteArray) (i:Nat) (hi:i<s.size):signHit s i 21=(bat s i==61):=pre_one s i hi 61
theorem hit22 (s:ByteArray) (i:Nat) (hi:i<s.size):signHit s i 22=(bat s i==43):=pre_one s i hi 43
theorem hit23 (s:ByteArray) (i:Nat) (hi:i<s.size):signHit s i 23=(bat s i==45):=pre_one s i hi 45
theorem hit24 (s:ByteArray) (i:Nat) (hi:i<s.size):signHit s i 24=(bat s i==42):=pre_one s i hi 42
theorem hit25 (s:ByteArray) (i:Nat) (hi:i<s.size):signHit s i 25=(bat s i==47):=pre_one s i hi 47
theorem hit26 (s:ByteArray) (i:Nat) (hi:i<s.size):signHit s i 26=(bat s i==37):=pre_one s i hi 37
theorem hit27 (s:ByteArray) (i:Nat) (hi:i<s.size):signHit s i 27=(bat s i==38):=pre_one s i hi 38
theorem hit28 (s:ByteArray) (i:Nat) (hi:i<s.size):signHit s i 28=(bat s i==33):=pre_one s i hi 33
theorem hit29 (s:ByteArray) (i:Nat) (hi:i<s.size):signHit s i 29=(bat s i==95):=pre_one s i hi 95
theorem no_two (s:ByteArray) (i:Nat) (hi:i<s.size) (h:∀j,j<9→signHit s i j=false):twoSigns.contains (bat s i,bat s (i+1))=false:=by
 have h0:=h 0 (by omega);rw[hit0 s i hi] at h0
 have h1:=h 1 (by omega);rw[hit1 s i hi] at h1
 have h2:=h 2 (by omega);rw[hit2 s i hi] at h2
 have h3:=h 3 (by omega);rw[hit3 s i hi] at h3
 have h4:=h 4 (by omega);rw[hit4 s i hi] at h4
 have h5:=h 5 (by omega);rw[hit5 s i hi] at h5
 have h6:=h 6 (by omega);rw[hit6 s i hi] at h6
 have h7:=h 7 (by omega);rw[hit7 s i hi] at h7
 have h8:=h 8 (by omega);rw[hit8 s i hi] at h8
 simp only[twoSigns,List.contains,List.elem,h0,h1,h2,h3,h4,h5,h6,h7,h8]
theorem no_one (s:ByteArray) (i:Nat) (hi:i<s.size) (h:∀j,j<30→signHit s i j=false):oneSigns.contains (bat s i)=false:=by
 have h9:=h 9 (by omega);rw[hit9 s i hi] at h9
 have h10:=h 10 (by omega);rw[hit10 s i hi] at h10
 have h11:=h 11 (by omega);rw[hit11 s i hi] at h11
 have h12:=h 12 (by omega);rw[hit12 s i hi] at h12
 have h13:=h 13 (by omega);rw[hit13 s i hi] at h13
 have h14:=h 14 (by omega);rw[hit14 s i hi] at h14
 have h15:=h 15 (by omega);rw[hit15 s i hi] at h15
 have h16:=h 16 (by omega);rw[hit16 s i hi] at h16
 have h17:=h 17 (by omega);rw[hit17 s i hi] at h17
 have h18:=h 18 (by omega);rw[hit18 s i hi] at h18
 have h19:=h 19 (by omega);rw[hit19 s i hi] at h19
 have h20:=h 20 (by omega);rw[hit20 s i hi] at h20
 have h21:=h 21 (by omega);rw[hit21 s i hi] at h21
 have h22:=h 22 (by omega);rw[hit22 s i hi] at h22
 have h23:=h 23 (by omega);rw[hit23 s i hi] at h23
 have h24:=h 24 (by omega);rw[hit24 s i hi] at h24
 have h25:=h 25 (by omega);rw[hit25 s i hi] at h25
 have h26:=h 26 (by omega);rw[hit26 s i hi] at h26
 have h27:=h 27 (by omega);rw[hit27 s i hi] at h27
 have h28:=h 28 (by omega);rw[hit28 s i hi] at h28
 have h29:=h 29 (by omega);rw[hit29 s i hi] at h29
 simp only[oneSigns,List.contains,List.elem,h9,h10,h11,h12,h13,h14,h15,h16,h17,h18,h19,h20,h21,h22,h23,h24,h25,h26,h27,h28,h29]
theorem sign_none (s:ByteArray) (i:Nat) (hi:i<s.size) (h:∀j,j<30→signHit s i j=false):signLen s i=0:=by
 rw[signLen,if_neg (by rw[no_two s i hi (fun j hj=>h j (by omega))];simp),if_neg (by rw[no_one s i hi h];simp)]
theorem sign_size (s:ByteArray) (i:Nat) (hi:i<s.size):(k:Nat)→k<30→signHit s i k=true→(∀j,j<k→signHit s i j=false)→signLen s i=(signAt k).size
 |0,_,h,_=>by
  rw[hit0 s i hi] at h
  have e:(bat s i,bat s (i+1))=(58,58):=by simpa using h
  rw[signLen,e];rfl
 |1,_,h,_=>by
  rw[hit1 s i hi] at h
  have e:(bat s i,bat s (i+1))=(45,62):=by simpa using h
  rw[signLen,e];rfl
 |2,_,h,_=>by
  rw[hit2 s i hi] at h
  have e:(bat s i,bat s (i+1))=(61,62):=by simpa using h
  rw[signLen,e];rfl
 |3,_,h,_=>by
  rw[hit3 s i hi] at h
  have e:(bat s i,bat s (i+1))=(61,61):=by simpa using h
  rw[signLen,e];rfl
 |4,_,h,_=>by
  rw[hit4 s i hi] at h
  have e:(bat s i,bat s (i+1))=(33,61):=by simpa using h
  rw[signLen,e];rfl
 |5,_,h,_=>by
  rw[hit5 s i hi] at h
  have e:(bat s i,bat s (i+1))=(60,61):=by simpa using h
  rw[signLen,e];rfl
 |6,_,h,_=>by
  rw[hit6 s i hi] at h
  have e:(bat s i,bat s (i+1))=(62,61):=by simpa using h
  rw[signLen,e];rfl
 |7,_,h,_=>by
  rw[hit7 s i hi] at h
  have e:(bat s i,bat s (i+1))=(38,38):=by simpa using h
  rw[signLen,e];rfl
 |8,_,h,_=>by
  rw[hit8 s i hi] at h
  have e:(bat s i,bat s (i+1))=(124,124):=by simpa using h
  rw[signLen,e];rfl
 |9,_,h,hn=>by
  rw[hit9 s i hi] at h
  have e:bat s i=40:=by simpa using h
  rw[signLen,if_neg (by rw[no_two s i hi (fun j hj=>hn j (by omega))];simp),e];rfl
 |10,_,h,hn=>by
  rw[hit10 s i hi] at h
  have e:bat s i=41:=by simpa using h
  rw[signLen,if_neg (by rw[no_two s i hi (fun j hj=>hn j (by omega))];simp),e];rfl
 |11,_,h,hn=>by
  rw[hit11 s i hi] at h
  have e:bat s i=123:=by simpa using h
  rw[signLen,if_neg (by rw[no_two s i hi (fun j hj=>hn j (by omega))];simp),e];rfl
 |12,_,h,hn=>by
  rw[hit12 s i hi] at h
  have e:bat s i=125:=by simpa using h
  rw[signLen,if_neg (by rw[no_two s i hi (fun j hj=>hn j (by omega))];simp),e];rfl
 |13,_,h,hn=>by
  rw[hit13 s i hi] at h
  have e:bat s i=91:=by simpa using h
  rw[signLen,if_neg (by rw[no_two s i hi (fun j hj=>hn j (by omega))];simp),e];rfl
 |14,_,h,hn=>by
  rw[hit14 s i hi] at h
  have e:bat s i=93:=by simpa using h
  rw[signLen,if_neg (by rw[no_two s i hi (fun j hj=>hn j (by omega))];simp),e];rfl
 |15,_,h,hn=>by
  rw[hit15 s i hi] at h
  have e:bat s i=60:=by simpa using h
  rw[signLen,if_neg (by rw[no_two s i hi (fun j hj=>hn j (by omega))];simp),e];rfl
 |16,_,h,hn=>by
  rw[hit16 s i hi] at h
  have e:bat s i=62:=by simpa using h
  rw[signLen,if_neg (by rw[no_two s i hi (fun j hj=>hn j (by omega))];simp),e];rfl
 |17,_,h,hn=>by
  rw[hit17 s i hi] at h
  have e:bat s i=44:=by simpa using h
  rw[signLen,if_neg (by rw[no_two s i hi (fun j hj=>hn j (by omega))];simp),e];rfl
 |18,_,h,hn=>by
  rw[hit18 s i hi] at h
  have e:bat s i=59:=by simpa using h
  rw[signLen,if_neg (by rw[no_two s i hi (fun j hj=>hn j (by omega))];simp),e];rfl
 |19,_,h,hn=>by
  rw[hit19 s i hi] at h
  have e:bat s i=58:=by simpa using h
  rw[signLen,if_neg (by rw[no_two s i hi (fun j hj=>hn j (by omega))];simp),e];rfl
 |20,_,h,hn=>by
  rw[hit20 s i hi] at h
  have e:bat s i=46:=by simpa using h
  rw[signLen,if_neg (by rw[no_two s i hi (fun j hj=>hn j (by omega))];simp),e];rfl
 |21,_,h,hn=>by
  rw[hit21 s i hi] at h
  have e:bat s i=61:=by simpa using h
  rw[signLen,if_neg (by rw[no_two s i hi (fun j hj=>hn j (by omega))];simp),e];rfl
 |22,_,h,hn=>by
  rw[hit22 s i hi] at h
  have e:bat s i=43:=by simpa using h
  rw[signLen,if_neg (by rw[no_two s i hi (fun j hj=>hn j (by omega))];simp),e];rfl
 |23,_,h,hn=>by
  rw[hit23 s i hi] at h
  have e:bat s i=45:=by simpa using h
  rw[signLen,if_neg (by rw[no_two s i hi (fun j hj=>hn j (by omega))];simp),e];rfl
 |24,_,h,hn=>by
  rw[hit24 s i hi] at h
  have e:bat s i=42:=by simpa using h
  rw[signLen,if_neg (by rw[no_two s i hi (fun j hj=>hn j (by omega))];simp),e];rfl
 |25,_,h,hn=>by
  rw[hit25 s i hi] at h
  have e:bat s i=47:=by simpa using h
  rw[signLen,if_neg (by rw[no_two s i hi (fun j hj=>hn j (by omega))];simp),e];rfl
 |26,_,h,hn=>by
  rw[hit26 s i hi] at h
  have e:bat s i=37:=by simpa using h
  rw[signLen,if_neg (by rw[no_two s i hi (fun j hj=>hn j (by omega))];simp),e];rfl
 |27,_,h,hn=>by
  rw[hit27 s i hi] at h
  have e:bat s i=38:=by simpa using h
  rw[signLen,if_neg (by rw[no_two s i hi (fun j hj=>hn j (by omega))];simp),e];rfl
 |28,_,h,hn=>by
  rw[hit28 s i hi] at h
  have e:bat s i=33:=by simpa using h
  rw[signLen,if_neg (by rw[no_two s i hi (fun j hj=>hn j (by omega))];simp),e];rfl
 |29,_,h,hn=>by
  rw[hit29 s i hi] at h
  have e:bat s i=95:=by simpa using h
  rw[signLen,if_neg (by rw[no_two s i hi (fun j hj=>hn j (by omega))];simp),e];rfl
 |k+30,hk,_,_=>absurd hk (by omega)
theorem prefix_take:∀(p l:List UInt8),Lib.hasPrefix l p=true→l.take p.length=p
 |[],l,_=>by simp
 |a::p,[],h=>by simp[Lib.hasPrefix] at h
 |a::p,b::l,h=>by
  simp[Lib.hasPrefix] at h
  have:=prefix_take p l (by simpa[Lib.hasPrefix] using h.2)
  simp[this,h.1]
theorem sign_text (s:ByteArray) (i k:Nat) (h:signHit s i k=true):s.extract i (i+(signAt k).size)=signAt k:=by
 have h1:=prefix_take _ _ h
 rw[rest_list] at h1
 rw[Lib.extract_eq,show i+(signAt k).size - i=(signAt k).data.toList.length by rw[Array.length_toList];show i+(signAt k).data.size - i=_;omega,h1]
theorem sign_len_pos:(k:Nat)→k<30→0<(signAt k).size∧(signAt k).size≤2
 |0,_=>by decide+kernel
 |1,_=>by decide+kernel
 |2,_=>by decide+kernel
 |3,_=>by decide+kernel
 |4,_=>by decide+kernel
 |5,_=>by decide+kernel
 |6,_=>by decide+kernel
 |7,_=>by decide+kernel
 |8,_=>by decide+kernel
 |9,_=>by decide+kernel
 |10,_=>by decide+kernel
 |11,_=>by decide+kernel
 |12,_=>by decide+kernel
 |13,_=>by decide+kernel
 |14,_=>by decide+kernel
 |15,_=>by decide+kernel
 |16,_=>by decide+kernel
 |17,_=>by decide+kernel
 |18,_=>by decide+kernel
 |19,_=>by decide+kernel
 |20,_=>by decide+kernel
 |21,_=>by decide+kernel
 |22,_=>by decide+kernel
 |23,_=>by decide+kernel
 |24,_=>by decide+kernel
 |25,_=>by decide+kernel
 |26,_=>by decide+kernel
 |27,_=>by decide+kernel
 |28,_=>by decide+kernel
 |29,_=>by decide+kernel
 |k+30,h=>absurd h (by omega)
end Go.Proofs.YtdplogkmkgekdaaGreatDoor
