/- The document's writer: types of functions. -/
import Derived.Test.YtagdihffmjopaaaGreatDoorPro
namespace Go.Proofs.YtagdihffmjopaaaGreatDoor
set_option linter.all false
open Go.RowKit
section
variable{B:Nat} {w0 w:World} {wb f:Nat} {bs:List UInt8} {kind pos n m:Int} {name:ByteArray} {ko:Option Addr} {kl kc:Nat}
set_option maxRecDepth 100000 in
set_option maxHeartbeats 2000000 in
theorem let132_0 (hR:RN B w0 wb f) {vs:List (List Value)} (hr:NR B w0 f ko vs) (hc:∀i x,vs[i]? =some x→∃g,ko=some ⟨g,0,none⟩∧g<B∧∀j,j<11→w0.cell? ⟨g,i*11+j,none⟩=x[j]?) (hl:vs.length=0) (hk:∀x∈vs,noK (labOf x)) (h:Wr B w0 w wb bs) (hne:bs≠[]) (hf:(bs++glue ([108,101,116]::(pWhen (m==1) [[109,117,116]]++(name.data.toList::(pWhen ((0:Int)%2==1) ([58]::(kd (vs.map (kdAt f w0)) 0).t)++pWhen (decide (2≤(0:Int))) ([61]::(kd (vs.map (kdAt f w0)) ((0:Int)%2).toNat).t)))))).length≤1099511627776):Calls Tryz.prog 132 #[.pointer (some ⟨wb,0,none⟩),.agg (nodeC kind pos 0 m name (.slice ko 0 kc))] w (WP B w0 w wb bs ([108,101,116]::(pWhen (m==1) [[109,117,116]]++(name.data.toList::(pWhen ((0:Int)%2==1) ([58]::(kd (vs.map (kdAt f w0)) 0).t)++pWhen (decide (2≤(0:Int))) ([61]::(kd (vs.map (kdAt f w0)) ((0:Int)%2).toNat).t)))))):=by
 have e:[108,101,116]::(pWhen (m==1) [[109,117,116]]++(name.data.toList::(pWhen ((0:Int)%2==1) ([58]::(kd (vs.map (kdAt f w0)) 0).t)++pWhen (decide (2≤(0:Int))) ([61]::(kd (vs.map (kdAt f w0)) ((0:Int)%2).toNat).t))))=[108,101,116]::(pWhen (m==1) [[109,117,116]]++(name.data.toList::[])):=by simp[pWhen]
 rw[e] at hf⊢
 clear e
 have q0:=(Sw.start h hne hf).box (nodeC kind pos 0 m name (.slice ko 0 kc))
 clear h hne hf hk hl hr hc hR
 cases h1:(m==1)
 ·have q:=q0.as (rest':=[108,101,116]::name.data.toList::[]) (by simp[pWhen,h1])
  have F:=q.f1
  clear q0
  go_enter Tryz.func132,Tryz.ntmps132
  go_wp2_with (first|(go_at_call 33;refine q.put ?_;clear q F;intro w2 q;have F:=q.f1;skip))
  go_end0
  exact q.done (by simp[pWhen,h1])
 ·have q:=q0.as (rest':=[108,101,116]::[109,117,116]::name.data.toList::[]) (by simp[pWhen,h1])
  have F:=q.f1
  clear q0
  go_enter Tryz.func132,Tryz.ntmps132
  go_wp2_with (first|(go_at_call 33;refine q.put ?_;clear q F;intro w2 q;have F:=q.f1;skip))
  go_end0
  exact q.done (by simp[pWhen,h1])
set_option maxRecDepth 100000 in
set_option maxHeartbeats 2000000 in
theorem let132_1 (hR:RN B w0 wb f) {vs:List (List Value)} (hr:NR B w0 f ko vs) (hc:∀i x,vs[i]? =some x→∃g,ko=some ⟨g,0,none⟩∧g<B∧∀j,j<11→w0.cell? ⟨g,i*11+j,none⟩=x[j]?) (hl:vs.length=1) (hk:∀x∈vs,noK (labOf x)) (h:Wr B w0 w wb bs) (hne:bs≠[]) (hf:(bs++glue ([108,101,116]::(pWhen (m==1) [[109,117,116]]++(name.data.toList::(pWhen ((1:Int)%2==1) ([58]::(kd (vs.map (kdAt f w0)) 0).t)++pWhen (decide (2≤(1:Int))) ([61]::(kd (vs.map (kdAt f w0)) ((1:Int)%2).toNat).t)))))).length≤1099511627776):Calls Tryz.prog 132 #[.pointer (some ⟨wb,0,none⟩),.agg (nodeC kind pos 1 m name (.slice ko 1 kc))] w (WP B w0 w wb bs ([108,101,116]::(pWhen (m==1) [[109,117,116]]++(name.data.toList::(pWhen ((1:Int)%2==1) ([58]::(kd (vs.map (kdAt f w0)) 0).t)++pWhen (decide (2≤(1:Int))) ([61]::(kd (vs.map (kdAt f w0)) ((1:Int)%2).toNat).t)))))):=by
 obtain⟨k0,p0,a0,b0,s0,o0,l0,c0,g0,X0,Y0,Z0,e0,y0,z0,eg0,W0,WO0,WR0,C0⟩:=kid_w hR hr hc (i:=0) (by omega) (fun x hx=>hk x (List.mem_of_getElem? hx))
 obtain⟨g,rfl⟩:∃g,g=g0:=⟨_,rfl⟩
 subst eg0
 have e:[108,101,116]::(pWhen (m==1) [[109,117,116]]++(name.data.toList::(pWhen ((1:Int)%2==1) ([58]::(kd (vs.map (kdAt f w0)) 0).t)++pWhen (decide (2≤(1:Int))) ([61]::(kd (vs.map (kdAt f w0)) ((1:Int)%2).toNat).t))))=[108,101,116]::(pWhen (m==1) [[109,117,116]]++(name.data.toList::([58]::(X0++[])))):=by simp[pWhen,e0]
 rw[e] at hf⊢
 clear e
 have q0:=(Sw.start h hne hf).box (nodeC kind pos 1 m name (.slice (some ⟨g,0,none⟩) 1 kc))
 have HW0:Hid (Wc B w0 wb 76 (nodeC k0 p0 a0 b0 s0 (.slice o0 l0 c0)) X0):=W0
 have HC0:Hid (∀W,Below B w0 W→B≤W.heap.size→g<W.heap.size∧∀j,j<11→W.cell? ⟨g,0*11+j,none⟩=(nodeC k0 p0 a0 b0 s0 (.slice o0 l0 c0)).toList[j]?):=C0
 clear h hne hf hk hl hr hc e0 y0 z0 W0 WO0 WR0 C0
 cases h1:(m==1)
 ·have q:=q0.as (rest':=[108,101,116]::name.data.toList::([58]::(X0++[]))) (by simp[pWhen,h1])
  have F:=q.f1
  have lg:=(HC0.out _ q.wr.bel q.wr.base).1
  have G0:=kid0 (HC0.out _ q.wr.bel q.wr.base).2
  clear q0
  go_enter Tryz.func132,Tryz.ntmps132
  go_wp2_with (first|(go_at_call 33;refine q.put ?_;clear q F lg G0;intro w2 q;have F:=q.f1;have lg:=(HC0.out _ q.wr.bel q.wr.base).1;have G0:=kid0 (HC0.out _ q.wr.bel q.wr.base).2;skip)|(go_at_call 76;refine q.go (fun a1 a2 a3=>HW0.out a1 a2 a3) ?_;clear q F lg G0;intro w2 q;have F:=q.f1;have lg:=(HC0.out _ q.wr.bel q.wr.base).1;have G0:=kid0 (HC0.out _ q.wr.bel q.wr.base).2;skip))
  go_end0
  exact q.done (by simp[pWhen,h1])
 ·have q:=q0.as (rest':=[108,101,116]::[109,117,116]::name.data.toList::([58]::(X0++[]))) (by simp[pWhen,h1])
  have F:=q.f1
  have lg:=(HC0.out _ q.wr.bel q.wr.base).1
  have G0:=kid0 (HC0.out _ q.wr.bel q.wr.base).2
  clear q0
  go_enter Tryz.func132,Tryz.ntmps132
  go_wp2_with (first|(go_at_call 33;refine q.put ?_;clear q F lg G0;intro w2 q;have F:=q.f1;have lg:=(HC0.out _ q.wr.bel q.wr.base).1;have G0:=kid0 (HC0.out _ q.wr.bel q.wr.base).2;skip)|(go_at_call 76;refine q.go (fun a1 a2 a3=>HW0.out a1 a2 a3) ?_;clear q F lg G0;intro w2 q;have F:=q.f1;have lg:=(HC0.out _ q.wr.bel q.wr.base).1;have G0:=kid0 (HC0.out _ q.wr.bel q.wr.base).2;skip))
  go_end0
  exact q.done (by simp[pWhen,h1])
set_option maxRecDepth 100000 in
set_option maxHeartbeats 2000000 in
theorem let132_2 (hR:RN B w0 wb f) {vs:List (List Value)} (hr:NR B w0 f ko vs) (hc:∀i x,vs[i]? =some x→∃g,ko=some ⟨g,0,none⟩∧g<B∧∀j,j<11→w0.cell? ⟨g,i*11+j,none⟩=x[j]?) (hl:vs.length=1) (hk:∀x∈vs,noK (labOf x)) (h:Wr B w0 w wb bs) (hne:bs≠[]) (hf:(bs++glue ([108,101,116]::(pWhen (m==1) [[109,117,116]]++(name.data.toList::(pWhen ((2:Int)%2==1) ([58]::(kd (vs.map (kdAt f w0)) 0).t)++pWhen (decide (2≤(2:Int))) ([61]::(kd (vs.map (kdAt f w0)) ((2:Int)%2).toNat).t)))))).length≤1099511627776):Calls Tryz.prog 132 #[.pointer (some ⟨wb,0,none⟩),.agg (nodeC kind pos 2 m name (.slice ko 1 kc))] w (WP B w0 w wb bs ([108,101,116]::(pWhen (m==1) [[109,117,116]]++(name.data.toList::(pWhen ((2:Int)%2==1) ([58]::(kd (vs.map (kdAt f w0)) 0).t)++pWhen (decide (2≤(2:Int))) ([61]::(kd (vs.map (kdAt f w0)) ((2:Int)%2).toNat).t)))))):=by
 obtain⟨k0,p0,a0,b0,s0,o0,l0,c0,g0,X0,Y0,Z0,e0,y0,z0,eg0,W0,WO0,WR0,C0⟩:=kid_w hR hr hc (i:=0) (by omega) (fun x hx=>hk x (List.mem_of_getElem? hx))
 obtain⟨g,rfl⟩:∃g,g=g0:=⟨_,rfl⟩
 subst eg0
 have e:[108,101,116]::(pWhen (m==1) [[109,117,116]]++(name.data.toList::(pWhen ((2:Int)%2==1) ([58]::(kd (vs.map (kdAt f w0)) 0).t)++pWhen (decide (2≤(2:Int))) ([61]::(kd (vs.map (kdAt f w0)) ((2:Int)%2).toNat).t))))=[108,101,116]::(pWhen (m==1) [[109,117,116]]++(name.data.toList::([61]::(X0++[])))):=by simp[pWhen,e0]
 rw[e] at hf⊢
 clear e
 have q0:=(Sw.start h hne hf).box (nodeC kind pos 2 m name (.slice (some ⟨g,0,none⟩) 1 kc))
 have HW0:Hid (Wc B w0 wb 76 (nodeC k0 p0 a0 b0 s0 (.slice o0 l0 c0)) X0):=W0
 have HC0:Hid (∀W,Below B w0 W→B≤W.heap.size→g<W.heap.size∧∀j,j<11→W.cell? ⟨g,0*11+j,none⟩=(nodeC k0 p0 a0 b0 s0 (.slice o0 l0 c0)).toList[j]?):=C0
 clear h hne hf hk hl hr hc e0 y0 z0 W0 WO0 WR0 C0
 cases h1:(m==1)
 ·have q:=q0.as (rest':=[108,101,116]::name.data.toList::([61]::(X0++[]))) (by simp[pWhen,h1])
  have F:=q.f1
  have lg:=(HC0.out _ q.wr.bel q.wr.base).1
  have G0:=kid0 (HC0.out _ q.wr.bel q.wr.base).2
  clear q0
  go_enter Tryz.func132,Tryz.ntmps132
  go_wp2_with (first|(go_at_call 33;refine q.put ?_;clear q F lg G0;intro w2 q;have F:=q.f1;have lg:=(HC0.out _ q.wr.bel q.wr.base).1;have G0:=kid0 (HC0.out _ q.wr.bel q.wr.base).2;skip)|(go_at_call 76;refine q.go (fun a1 a2 a3=>HW0.out a1 a2 a3) ?_;clear q F lg G0;intro w2 q;have F:=q.f1;have lg:=(HC0.out _ q.wr.bel q.wr.base).1;have G0:=kid0 (HC0.out _ q.wr.bel q.wr.base).2;skip))
  go_end0
  exact q.done (by simp[pWhen,h1])
 ·have q:=q0.as (rest':=[108,101,116]::[109,117,116]::name.data.toList::([61]::(X0++[]))) (by simp[pWhen,h1])
  have F:=q.f1
  have lg:=(HC0.out _ q.wr.bel q.wr.base).1
  have G0:=kid0 (HC0.out _ q.wr.bel q.wr.base).2
  clear q0
  go_enter Tryz.func132,Tryz.ntmps132
  go_wp2_with (first|(go_at_call 33;refine q.put ?_;clear q F lg G0;intro w2 q;have F:=q.f1;have lg:=(HC0.out _ q.wr.bel q.wr.base).1;have G0:=kid0 (HC0.out _ q.wr.bel q.wr.base).2;skip)|(go_at_call 76;refine q.go (fun a1 a2 a3=>HW0.out a1 a2 a3) ?_;clear q F lg G0;intro w2 q;have F:=q.f1;have lg:=(HC0.out _ q.wr.bel q.wr.base).1;have G0:=kid0 (HC0.out _ q.wr.bel q.wr.base).2;skip))
  go_end0
  exact q.done (by simp[pWhen,h1])
set_option maxRecDepth 100000 in
set_option maxHeartbeats 2000000 in
theorem let132_3 (hR:RN B w0 wb f) {vs:List (List Value)} (hr:NR B w0 f ko vs) (hc:∀i x,vs[i]? =some x→∃g,ko=some ⟨g,0,none⟩∧g<B∧∀j,j<11→w0.cell? ⟨g,i*11+j,none⟩=x[j]?) (hl:vs.length=2) (hk:∀x∈vs,noK (labOf x)) (h:Wr B w0 w wb bs) (hne:bs≠[]) (hf:(bs++glue ([108,101,116]::(pWhen (m==1) [[109,117,116]]++(name.data.toList::(pWhen ((3:Int)%2==1) ([58]::(kd (vs.map (kdAt f w0)) 0).t)++pWhen (decide (2≤(3:Int))) ([61]::(kd (vs.map (kdAt f w0)) ((3:Int)%2).toNat).t)))))).length≤1099511627776):Calls Tryz.prog 132 #[.pointer (some ⟨wb,0,none⟩),.agg (nodeC kind pos 3 m name (.slice ko 2 kc))] w (WP B w0 w wb bs ([108,101,116]::(pWhen (m==1) [[109,117,116]]++(name.data.toList::(pWhen ((3:Int)%2==1) ([58]::(kd (vs.map (kdAt f w0)) 0).t)++pWhen (decide (2≤(3:Int))) ([61]::(kd (vs.map (kdAt f w0)) ((3:Int)%2).toNat).t)))))):=by
 obtain⟨k0,p0,a0,b0,s0,o0,l0,c0,g0,X0,Y0,Z0,e0,y0,z0,eg0,W0,WO0,WR0,C0⟩:=kid_w hR hr hc (i:=0) (by omega) (fun x hx=>hk x (List.mem_of_getElem? hx))
 obtain⟨g,rfl⟩:∃g,g=g0:=⟨_,rfl⟩
 subst eg0
 obtain⟨k1,p1,a1,b1,s1,o1,l1,c1,g1,X1,Y1,Z1,e1,y1,z1,eg1,W1,WO1,WR1,C1⟩:=kid_w hR hr hc (i:=1) (by omega) (fun x hx=>hk x (List.mem_of_getElem? hx))
 obtain rfl:g=g1:=by simpa using eg1
 have e:[108,101,116]::(pWhen (m==1) [[109,117,116]]++(name.data.toList::(pWhen ((3:Int)%2==1) ([58]::(kd (vs.map (kdAt f w0)) 0).t)++pWhen (decide (2≤(3:Int))) ([61]::(kd (vs.map (kdAt f w0)) ((3:Int)%2).toNat).t))))=[108,101,116]::(pWhen (m==1) [[109,117,116]]++(name.data.toList::([58]::(X0++([61]::(X1++[])))))):=by simp[pWhen,e0,e1]
 rw[e] at hf⊢
 clear e
 have q0:=(Sw.start h hne hf).box (nodeC kind pos 3 m name (.slice (some ⟨g,0,none⟩) 2 kc))
 have HW0:Hid (Wc B w0 wb 76 (nodeC k0 p0 a0 b0 s0 (.slice o0 l0 c0)) X0):=W0
 have HC0:Hid (∀W,Below B w0 W→B≤W.heap.size→g<W.heap.size∧∀j,j<11→W.cell? ⟨g,0*11+j,none⟩=(nodeC k0 p0 a0 b0 s0 (.slice o0 l0 c0)).toList[j]?):=C0
 have HW1:Hid (Wc B w0 wb 76 (nodeC k1 p1 a1 b1 s1 (.slice o1 l1 c1)) X1):=W1
 have HC1:Hid (∀W,Below B w0 W→B≤W.heap.size→g<W.heap.size∧∀j,j<11→W.cell? ⟨g,1*11+j,none⟩=(nodeC k1 p1 a1 b1 s1 (.slice o1 l1 c1)).toList[j]?):=C1
 clear h hne hf hk hl hr hc e0 y0 z0 W0 WO0 WR0 C0 e1 y1 z1 eg1 W1 WO1 WR1 C1
 cases h1:(m==1)
 ·have q:=q0.as (rest':=[108,101,116]::name.data.toList::([58]::(X0++([61]::(X1++[]))))) (by simp[pWhen,h1])
  have F:=q.f1
  have lg:=(HC0.out _ q.wr.bel q.wr.base).1
  have G0:=kid0 (HC0.out _ q.wr.bel q.wr.base).2
  have G1:=kid1 (HC1.out _ q.wr.bel q.wr.base).2
  clear q0
  go_enter Tryz.func132,Tryz.ntmps132
  go_wp2_with (first|(go_at_call 33;refine q.put ?_;clear q F lg G0 G1;intro w2 q;have F:=q.f1;have lg:=(HC0.out _ q.wr.bel q.wr.base).1;have G0:=kid0 (HC0.out _ q.wr.bel q.wr.base).2;have G1:=kid1 (HC1.out _ q.wr.bel q.wr.base).2;skip)|(go_at_call 76;refine q.go (fun a1 a2 a3=>HW1.out a1 a2 a3) ?_;clear q F lg G0 G1;intro w2 q;have F:=q.f1;have lg:=(HC0.out _ q.wr.bel q.wr.base).1;have G0:=kid0 (HC0.out _ q.wr.bel q.wr.base).2;have G1:=kid1 (HC1.out _ q.wr.bel q.wr.base).2;skip)|(go_at_call 76;refine q.go (fun a1 a2 a3=>HW0.out a1 a2 a3) ?_;clear q F lg G0 G1;intro w2 q;have F:=q.f1;have lg:=(HC0.out _ q.wr.bel q.wr.base).1;have G0:=kid0 (HC0.out _ q.wr.bel q.wr.base).2;have G1:=kid1 (HC1.out _ q.wr.bel q.wr.base).2;skip))
  go_end0
  exact q.done (by simp[pWhen,h1])
 ·have q:=q0.as (rest':=[108,101,116]::[109,117,116]::name.data.toList::([58]::(X0++([61]::(X1++[]))))) (by simp[pWhen,h1])
  have F:=q.f1
  have lg:=(HC0.out _ q.wr.bel q.wr.base).1
  have G0:=kid0 (HC0.out _ q.wr.bel q.wr.base).2
  have G1:=kid1 (HC1.out _ q.wr.bel q.wr.base).2
  clear q0
  go_enter Tryz.func132,Tryz.ntmps132
  go_wp2_with (first|(go_at_call 33;refine q.put ?_;clear q F lg G0 G1;intro w2 q;have F:=q.f1;have lg:=(HC0.out _ q.wr.bel q.wr.base).1;have G0:=kid0 (HC0.out _ q.wr.bel q.wr.base).2;have G1:=kid1 (HC1.out _ q.wr.bel q.wr.base).2;skip)|(go_at_call 76;refine q.go (fun a1 a2 a3=>HW1.out a1 a2 a3) ?_;clear q F lg G0 G1;intro w2 q;have F:=q.f1;have lg:=(HC0.out _ q.wr.bel q.wr.base).1;have G0:=kid0 (HC0.out _ q.wr.bel q.wr.base).2;have G1:=kid1 (HC1.out _ q.wr.bel q.wr.base).2;skip)|(go_at_call 76;refine q.go (fun a1 a2 a3=>HW0.out a1 a2 a3) ?_;clear q F lg G0 G1;intro w2 q;have F:=q.f1;have lg:=(HC0.out _ q.wr.bel q.wr.base).1;have G0:=kid0 (HC0.out _ q.wr.bel q.wr.base).2;have G1:=kid1 (HC1.out _ q.wr.bel q.wr.base).2;skip))
  go_end0
  exact q.done (by simp[pWhen,h1])
end
end Go.Proofs.YtagdihffmjopaaaGreatDoor
namespace Go.Proofs.YtagdihffmjopaaaGreatDoor
set_option linter.all false
open Go.RowKit
section
variable{B:Nat} {w0 w:World} {wb f:Nat} {bs:List UInt8} {kind pos n m:Int} {name:ByteArray} {ko:Option Addr} {kl kc:Nat}
theorem NR.take {a:Option Addr} {ks:List (List Value)} (r:NR B w0 f a ks) (i:Nat):NR B w0 f a (ks.take i):=⟨fun j x hx=>r.cell j x (by rw[List.getElem?_take] at hx;split at hx;exact hx;cases hx),fun x hx=>r.all x (List.mem_of_mem_take hx),by have:=r.few;rw[List.length_take];omega⟩
theorem NR.drop {g o:Nat} {ks:List (List Value)} (r:NR B w0 f (some ⟨g,o,none⟩) ks) (i:Nat):NR B w0 f (some ⟨g,o+i*11,none⟩) (ks.drop i):=⟨fun j x hx=>by
 rw[List.getElem?_drop] at hx
 obtain⟨g',o',e,hg,hc⟩:=r.cell _ x hx
 obtain⟨rfl,rfl⟩:g=g'∧o=o':=by simpa using e
 exact⟨g,_,rfl,hg,fun k hk=>by have:=hc k hk;rw[Nat.add_mul,←Nat.add_assoc] at this;exact this⟩,fun x hx=>r.all x (List.mem_of_mem_drop hx),by have:=r.few;rw[List.length_drop];omega⟩
theorem Nw.cap (h:Nw B w0 (f+1) (nodeC kind pos n m name (.slice ko kl kc)).toList):kl≤kc:=by
 obtain⟨kind',pos',n',m',name',kv,vs,h1,h2,h3,h3',h4,h5,h6,h7⟩:=h
 have e:kind=kind'∧pos=pos'∧n=n'∧m=m'∧name=name'∧Value.slice ko kl kc=kv:=by simpa[nodeC] using h1
 obtain⟨rfl,rfl,rfl,rfl,rfl,rfl⟩:=e
 rcases h4.2 with⟨x1,x2⟩|⟨g,cap,cur,x1,hb,hg,hnc,-⟩
 ·obtain⟨-,rfl,rfl⟩:ko=none∧kl=0∧kc=0:=by simpa using x1
  exact Nat.le_refl _
 ·obtain⟨-,rfl,rfl⟩:ko=some ⟨g,0,none⟩∧kl=vs.length∧kc=cap:=by simpa using x1
  exact hnc
set_option maxRecDepth 100000 in
set_option maxHeartbeats 2000000 in
theorem fnType98 (hR:RN B w0 wb f) {vs:List (List Value)} {last:Nat} (hr:NR B w0 f ko vs) (hc:∀i x,vs[i]? =some x→∃g,ko=some ⟨g,0,none⟩∧g<B∧∀j,j<11→w0.cell? ⟨g,i*11+j,none⟩=x[j]?) (hl:vs.length=last+1) (hcap:last+1≤kc) (hk:∀x∈vs,noK (labOf x)) (h:Wr B w0 w wb bs) (hne:bs≠[]) (hf:(bs++glue ([102,110]::(pNm name.data.toList++(pFn n++(pRow [40] [41] ((vs.map (kdAt f w0)).take last)++([45,62]::(kd (vs.map (kdAt f w0)) last).t)))))).length≤1099511627776):Calls Tryz.prog 98 #[.pointer (some ⟨wb,0,none⟩),.agg (nodeC kind pos n m name (.slice ko (last+1) kc))] w (WP B w0 w wb bs ([102,110]::(pNm name.data.toList++(pFn n++(pRow [40] [41] ((vs.map (kdAt f w0)).take last)++([45,62]::(kd (vs.map (kdAt f w0)) last).t)))))):=by
 have hfew:=hr.few
 obtain⟨k0,p0,a0,b0,s0,o0,l0,c0,g0,X0,Y0,Z0,e0,y0,z0,eg0,W0,WO0,WR0,C0⟩:=kid_w hR hr hc (i:=last) (by omega) (fun x hx=>hk x (List.mem_of_getElem? hx))
 subst eg0
 obtain⟨us,hus⟩:∃us,us=vs.take last:=⟨_,rfl⟩
 have hul:us.length=last:=by rw[hus,List.length_take];omega
 have em:(vs.map (kdAt f w0)).take last=us.map (kdAt f w0):=by rw[hus,List.map_take]
 have HL:Hid (NR B w0 f (some ⟨g0,0,none⟩) us∧∀x∈us,noK (labOf x)):=⟨hus▸hr.take last,fun x hx=>hk x (List.mem_of_mem_take (hus▸hx))⟩
 have e:[102,110]::(pNm name.data.toList++(pFn n++(pRow [40] [41] ((vs.map (kdAt f w0)).take last)++([45,62]::(kd (vs.map (kdAt f w0)) last).t))))=[102,110]::(pNm name.data.toList++(pFn n++([40]::(pSep [44] (us.map (kdAt f w0))++([[41],[45,62]]++(X0++[])))))):=by rw[em,e0];simp[pRow]
 rw[e] at hf⊢
 clear e em
 have q0:=(Sw.start h hne hf).box (nodeC kind pos n m name (.slice (some ⟨g0,0,none⟩) (last+1) kc))
 have HW0:Hid (Wc B w0 wb 76 (nodeC k0 p0 a0 b0 s0 (.slice o0 l0 c0)) X0):=W0
 have HC0:Hid (∀W,Below B w0 W→B≤W.heap.size→g0<W.heap.size∧∀j,j<11→W.cell? ⟨g0,last*11+j,none⟩=(nodeC k0 p0 a0 b0 s0 (.slice o0 l0 c0)).toList[j]?):=C0
 have hI1:(last:Int)≤(kc:Int):=by omega
 have hI2:(last:Int)<(last:Int)+1:=by omega
 have hI3:(0:Int)≤(last:Int):=by omega
 have hb:(last:Int)≤20000:=by omega
 subst hul
 have E:Hid (us=vs.take us.length):=hus
 clear h hne hf hk hl hr hc e0 y0 z0 W0 WO0 WR0 C0 hus E hfew
 cases hs:(name.data.toList.length !=0)
 ·have hs2:name=⟨#[]⟩:=by
   have h9:name.data.toList.length=0:=by simpa using hs
   rw[size_list] at h9
   obtain⟨d⟩:=name
   have:d=#[]:=Array.eq_empty_of_size_eq_zero h9
   rw[this]
  subst hs2
  have q:=q0.as (rest':=[102,110]::(pFn n++([40]::(pSep [44] (us.map (kdAt f w0))++([[41],[45,62]]++(X0++[])))))) (by simp[pNm,pWhen])
  clear q0
  have F:=q.f1
  go_enter Tryz.func98,Tryz.ntmps98
  go_wp2_with (first
   |(go_at_call 33;refine q.put ?_;clear q F;intro w2 q;have F:=q.f1)
   |(go_at_call 113;refine q.go (fun a1 a2 a3=>kind113 n a1 a2 a3) ?_;clear q F;intro w2 q;have F:=q.f1)
   |(go_at_call 97;refine q.go (fun a1 a2 a3=>list97 hR HL.out.1 HL.out.2 a1 a2 a3) ?_;clear q F;intro w2 q;have F:=q.f1)
   |(go_at_call 31;refine q.puts (ss:=[⟨#[41]⟩,⟨#[45,62]⟩]) ?_ (by first|rfl|simp) rfl rfl rfl (by decide);clear q F;intro w2 q;have F:=q.f1;have lg:=(HC0.out _ q.wr.bel q.wr.base).1;have G:=(HC0.out _ q.wr.bel q.wr.base).2;have e0:=G 0 (by decide);have e1:=G 1 (by decide);have e2:=G 2 (by decide);have e3:=G 3 (by decide);have e4:=G 4 (by decide);have e5:=G 5 (by decide);have e6:=G 6 (by decide);have e7:=G 7 (by decide);have e8:=G 8 (by decide);have e9:=G 9 (by decide);have e10:=G 10 (by decide);simp only[Nat.add_zero] at e0;clear G)
   |(go_at_call 76;refine q.go (fun a1 a2 a3=>HW0.out a1 a2 a3) ?_;clear q F;intro w2 q;have F:=q.f1))
  go_end0
  exact q.done (by simp[pNm,pWhen])
 ·have hs2:name.toList.isEmpty=false:=by
   cases h9:name.toList.isEmpty
   ·rfl
   ·have h8:name.toList=[]:=by simpa using h9
    rw[Lib.toList_data] at h8
    rw[h8] at hs
    exact absurd hs (by decide)
  have q:=q0.as (rest':=[102,110]::name.data.toList::(pFn n++([40]::(pSep [44] (us.map (kdAt f w0))++([[41],[45,62]]++(X0++[])))))) (by unfold pNm;rw[hs];rfl)
  clear q0
  have F:=q.f1
  go_enter Tryz.func98,Tryz.ntmps98
  go_wp2_with (first
   |(go_at_call 33;refine q.put ?_;clear q F;intro w2 q;have F:=q.f1)
   |(go_at_call 113;refine q.go (fun a1 a2 a3=>kind113 n a1 a2 a3) ?_;clear q F;intro w2 q;have F:=q.f1)
   |(go_at_call 97;refine q.go (fun a1 a2 a3=>list97 hR HL.out.1 HL.out.2 a1 a2 a3) ?_;clear q F;intro w2 q;have F:=q.f1)
   |(go_at_call 31;refine q.puts (ss:=[⟨#[41]⟩,⟨#[45,62]⟩]) ?_ (by first|rfl|simp) rfl rfl rfl (by decide);clear q F;intro w2 q;have F:=q.f1;have lg:=(HC0.out _ q.wr.bel q.wr.base).1;have G:=(HC0.out _ q.wr.bel q.wr.base).2;have e0:=G 0 (by decide);have e1:=G 1 (by decide);have e2:=G 2 (by decide);have e3:=G 3 (by decide);have e4:=G 4 (by decide);have e5:=G 5 (by decide);have e6:=G 6 (by decide);have e7:=G 7 (by decide);have e8:=G 8 (by decide);have e9:=G 9 (by decide);have e10:=G 10 (by decide);simp only[Nat.add_zero] at e0;clear G)
   |(go_at_call 76;refine q.go (fun a1 a2 a3=>HW0.out a1 a2 a3) ?_;clear q F;intro w2 q;have F:=q.f1))
  go_end0
  exact q.done (by unfold pNm;rw[hs];simp[pWhen])
end
end Go.Proofs.YtagdihffmjopaaaGreatDoor
