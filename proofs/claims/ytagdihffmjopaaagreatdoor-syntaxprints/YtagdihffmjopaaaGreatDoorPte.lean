/- The document's writer: if, let, closures, threads. -/
import Derived.Test.YtagdihffmjopaaaGreatDoorPtc
namespace Go.Proofs.YtagdihffmjopaaaGreatDoor
set_option linter.all false
open Go.RowKit
section
variable{B:Nat} {w0 w:World} {wb f:Nat} {bs:List UInt8} {kind pos n m:Int} {name:ByteArray} {ko:Option Addr} {kl kc:Nat}
theorem lab_nth {vs:List (List Value)} {i:Nat} {x:List Value} {z:Int} (e:(vs.map labOf)[i]? =some z) (hx:vs[i]? =some x):labOf x=z:=by
 rw[List.getElem?_map,hx] at e
 simpa using e
theorem labs_take {vs:List (List Value)} {cs rs:List Int} {mm:Nat} {z:Int} (e:vs.map labOf=cs++rs) (hm:cs.length=mm) (h:∀c∈cs,c=z):∀x∈vs.take mm,labOf x=z:=fun x hx=>by
 have h9:labOf x∈(vs.take mm).map labOf:=List.mem_map.2 ⟨x,hx,rfl⟩
 rw[List.map_take,e,←hm,List.take_left'] at h9
 ·exact h _ h9
 ·rfl
theorem labs_drop {vs:List (List Value)} {cs rs:List Int} {mm:Nat} (e:vs.map labOf=cs++rs) (hm:cs.length=mm):(vs.drop mm).map labOf=rs:=by
 rw[List.map_drop,e,←hm,List.drop_left']
 rfl
set_option maxRecDepth 100000 in
set_option maxHeartbeats 2000000 in
theorem e117_33a (hRs:∀g,g≤f→RN B w0 wb g) (ht:Tab B w0) (hkn:kl=2) (hx:Nw B w0 (f+1) (nodeC 33 pos n m name (.slice ko kl kc)).toList):Wc B w0 wb 117 (nodeC 33 pos n m name (.slice ko kl kc)) (tok (f+1) w0 (nodeC 33 pos n m name (.slice ko kl kc)).toList):=by
 intro w bs h hne hf
 have hR:RN B w0 wb f:=@hRs f (Nat.le_refl f)
 have hcap:=hx.cap
 obtain⟨vs,hkl,hr,hg,htok,hs,hc⟩:=hx.opened
 rw[htok] at hf⊢
 clear htok hx
 obtain rfl:kl=2:=hkn
 obtain⟨y1,y2,zs,eks,hz,nk1,nk2,nkz⟩:=hg.eif rfl
 have hk:∀x∈vs,noK (labOf x):=fun x hx=>by
  have h9:labOf x∈vs.map labOf:=List.mem_map.2 ⟨x,hx,rfl⟩
  rw[eks] at h9
  rcases List.mem_cons.1 h9 with h9|h9
  ·rw[h9];exact nk1
  rcases List.mem_cons.1 h9 with h9|h9
  ·rw[h9];exact nk2
  ·exact nkz _ h9
 clear eks nk1 nk2 nkz hz
 obtain⟨k0,p0,a0,b0,s0,o0,l0,c0,g,X0,Y0,Z0,e0,y0,z0,rfl,W0,WO0,WR0,C0⟩:=kid_w hR hr hc (i:=0) (by omega) (fun x hx=>hk x (List.mem_of_getElem? hx))
 obtain⟨k1,p1,a1,b1,s1,o1,l1,c1,g1,X1,Y1,Z1,e1,y1,z1,eg1,W1,WO1,WR1,C1⟩:=kid_w hR hr hc (i:=1) (by omega) (fun x hx=>hk x (List.mem_of_getElem? hx))
 obtain rfl:g=g1:=by simpa using eg1
 have e:asm 33 n m (name:ByteArray).data.toList (vs.map (kdAt f w0))=[105,102]::(Y0++(X1++[])):=by
  show [105,102]::(pOp (kd (vs.map (kdAt f w0)) 0)++((kd (vs.map (kdAt f w0)) 1).t++(pWhen (decide (2<(vs.map (kdAt f w0)).length)) [[101,108,115,101]]++pAll ((vs.map (kdAt f w0)).drop 2))))=_;rw[e0,e1,y0]
  rw[show(vs.map (kdAt f w0)).length=2 from by rw[List.length_map];exact hkl]
  rw[show pAll ((vs.map (kdAt f w0)).drop 2)=[] from ?_]
  ·rfl
  ·rw[List.drop_of_length_le (by rw[List.length_map,hkl];exact Nat.le_refl 2)];rfl
 rw[e] at hf⊢
 clear e
 have q:=(Sw.start h hne hf).box (nodeC 33 pos n m name (.slice (some ⟨g,0,none⟩) 2 kc))
 have HWO0:Hid (Wc B w0 wb 115 (nodeC k0 p0 a0 b0 s0 (.slice o0 l0 c0)) Y0):=WO0
 have HC0:Hid (∀W,Below B w0 W→B≤W.heap.size→g<W.heap.size∧∀j,j<11→W.cell? ⟨g,0*11+j,none⟩=(nodeC k0 p0 a0 b0 s0 (.slice o0 l0 c0)).toList[j]?):=C0
 have HW1:Hid (Wc B w0 wb 76 (nodeC k1 p1 a1 b1 s1 (.slice o1 l1 c1)) X1):=W1
 have HC1:Hid (∀W,Below B w0 W→B≤W.heap.size→g<W.heap.size∧∀j,j<11→W.cell? ⟨g,1*11+j,none⟩=(nodeC k1 p1 a1 b1 s1 (.slice o1 l1 c1)).toList[j]?):=C1
 clear e0 y0 z0 W0 WO0 WR0 C0
 clear e1 y1 z1 W1 WO1 WR1 C1 eg1
 clear h hne hf hr hg hc hkl hcap hRs hk
 have F:=q.f1
 have lg:=(HC0.out _ q.wr.bel q.wr.base).1
 have G0:=kid0 (HC0.out _ q.wr.bel q.wr.base).2
 have G1:=kid1 (HC1.out _ q.wr.bel q.wr.base).2
 go_enter Tryz.func117,Tryz.ntmps117
 go_wp2_with (first
  |(go_at_call 33;refine q.put ?_;clear q F lg G0 G1;intro w2 q;have F:=q.f1;have lg:=(HC0.out _ q.wr.bel q.wr.base).1;have G0:=kid0 (HC0.out _ q.wr.bel q.wr.base).2;have G1:=kid1 (HC1.out _ q.wr.bel q.wr.base).2)
  |(go_at_call 76;refine q.go (fun a1 a2 a3=>HW1.out a1 a2 a3) ?_;clear q F lg G0 G1;intro w2 q;have F:=q.f1;have lg:=(HC0.out _ q.wr.bel q.wr.base).1;have G0:=kid0 (HC0.out _ q.wr.bel q.wr.base).2;have G1:=kid1 (HC1.out _ q.wr.bel q.wr.base).2)
  |(go_at_call 115;refine q.go (fun a1 a2 a3=>HWO0.out a1 a2 a3) ?_;clear q F lg G0 G1;intro w2 q;have F:=q.f1;have lg:=(HC0.out _ q.wr.bel q.wr.base).1;have G0:=kid0 (HC0.out _ q.wr.bel q.wr.base).2;have G1:=kid1 (HC1.out _ q.wr.bel q.wr.base).2))
 all_goals(go_end0;exact q.done (by simp<;>rfl))
set_option maxRecDepth 100000 in
set_option maxHeartbeats 2000000 in
theorem e117_33b (hRs:∀g,g≤f→RN B w0 wb g) (ht:Tab B w0) (hkn:kl=3) (hx:Nw B w0 (f+1) (nodeC 33 pos n m name (.slice ko kl kc)).toList):Wc B w0 wb 117 (nodeC 33 pos n m name (.slice ko kl kc)) (tok (f+1) w0 (nodeC 33 pos n m name (.slice ko kl kc)).toList):=by
 intro w bs h hne hf
 have hR:RN B w0 wb f:=@hRs f (Nat.le_refl f)
 have hcap:=hx.cap
 obtain⟨vs,hkl,hr,hg,htok,hs,hc⟩:=hx.opened
 rw[htok] at hf⊢
 clear htok hx
 obtain rfl:kl=3:=hkn
 obtain⟨y1,y2,zs,eks,hz,nk1,nk2,nkz⟩:=hg.eif rfl
 have hk:∀x∈vs,noK (labOf x):=fun x hx=>by
  have h9:labOf x∈vs.map labOf:=List.mem_map.2 ⟨x,hx,rfl⟩
  rw[eks] at h9
  rcases List.mem_cons.1 h9 with h9|h9
  ·rw[h9];exact nk1
  rcases List.mem_cons.1 h9 with h9|h9
  ·rw[h9];exact nk2
  ·exact nkz _ h9
 clear eks nk1 nk2 nkz hz
 obtain⟨k0,p0,a0,b0,s0,o0,l0,c0,g,X0,Y0,Z0,e0,y0,z0,rfl,W0,WO0,WR0,C0⟩:=kid_w hR hr hc (i:=0) (by omega) (fun x hx=>hk x (List.mem_of_getElem? hx))
 obtain⟨k1,p1,a1,b1,s1,o1,l1,c1,g1,X1,Y1,Z1,e1,y1,z1,eg1,W1,WO1,WR1,C1⟩:=kid_w hR hr hc (i:=1) (by omega) (fun x hx=>hk x (List.mem_of_getElem? hx))
 obtain rfl:g=g1:=by simpa using eg1
 obtain⟨k2,p2,a2,b2,s2,o2,l2,c2,g2,X2,Y2,Z2,e2,y2,z2,eg2,W2,WO2,WR2,C2⟩:=kid_w hR hr hc (i:=2) (by omega) (fun x hx=>hk x (List.mem_of_getElem? hx))
 obtain rfl:g=g2:=by simpa using eg2
 have e:asm 33 n m (name:ByteArray).data.toList (vs.map (kdAt f w0))=[105,102]::(Y0++(X1++([101,108,115,101]::(X2++[])))):=by
  show [105,102]::(pOp (kd (vs.map (kdAt f w0)) 0)++((kd (vs.map (kdAt f w0)) 1).t++(pWhen (decide (2<(vs.map (kdAt f w0)).length)) [[101,108,115,101]]++pAll ((vs.map (kdAt f w0)).drop 2))))=_;rw[e0,e1,y0]
  rw[show(vs.map (kdAt f w0)).length=3 from by rw[List.length_map];exact hkl]
  rw[show pAll ((vs.map (kdAt f w0)).drop 2)=X2 from ?_]
  ·simp[pWhen]
  ·match vs,hkl with
   |[v0,v1,v2],_=>
    have e9:kdAt f w0 v2=⟨k2,l2,X2⟩:=(by simpa[kd] using e2)
    show pAll [kdAt f w0 v2]=X2
    rw[e9]
    simp[pAll]
 rw[e] at hf⊢
 clear e
 have q:=(Sw.start h hne hf).box (nodeC 33 pos n m name (.slice (some ⟨g,0,none⟩) 3 kc))
 have HWO0:Hid (Wc B w0 wb 115 (nodeC k0 p0 a0 b0 s0 (.slice o0 l0 c0)) Y0):=WO0
 have HC0:Hid (∀W,Below B w0 W→B≤W.heap.size→g<W.heap.size∧∀j,j<11→W.cell? ⟨g,0*11+j,none⟩=(nodeC k0 p0 a0 b0 s0 (.slice o0 l0 c0)).toList[j]?):=C0
 have HW1:Hid (Wc B w0 wb 76 (nodeC k1 p1 a1 b1 s1 (.slice o1 l1 c1)) X1):=W1
 have HC1:Hid (∀W,Below B w0 W→B≤W.heap.size→g<W.heap.size∧∀j,j<11→W.cell? ⟨g,1*11+j,none⟩=(nodeC k1 p1 a1 b1 s1 (.slice o1 l1 c1)).toList[j]?):=C1
 have HW2:Hid (Wc B w0 wb 76 (nodeC k2 p2 a2 b2 s2 (.slice o2 l2 c2)) X2):=W2
 have HC2:Hid (∀W,Below B w0 W→B≤W.heap.size→g<W.heap.size∧∀j,j<11→W.cell? ⟨g,2*11+j,none⟩=(nodeC k2 p2 a2 b2 s2 (.slice o2 l2 c2)).toList[j]?):=C2
 clear e0 y0 z0 W0 WO0 WR0 C0
 clear e1 y1 z1 W1 WO1 WR1 C1 eg1
 clear e2 y2 z2 W2 WO2 WR2 C2 eg2
 clear h hne hf hr hg hc hkl hcap hRs hk
 have F:=q.f1
 have lg:=(HC0.out _ q.wr.bel q.wr.base).1
 have G0:=kid0 (HC0.out _ q.wr.bel q.wr.base).2
 have G1:=kid1 (HC1.out _ q.wr.bel q.wr.base).2
 have G2:=kid2 (HC2.out _ q.wr.bel q.wr.base).2
 go_enter Tryz.func117,Tryz.ntmps117
 go_wp2_with (first
  |(go_at_call 33;refine q.put ?_;clear q F lg G0 G1 G2;intro w2 q;have F:=q.f1;have lg:=(HC0.out _ q.wr.bel q.wr.base).1;have G0:=kid0 (HC0.out _ q.wr.bel q.wr.base).2;have G1:=kid1 (HC1.out _ q.wr.bel q.wr.base).2;have G2:=kid2 (HC2.out _ q.wr.bel q.wr.base).2)
  |(go_at_call 76;refine q.go (fun a1 a2 a3=>HW2.out a1 a2 a3) ?_;clear q F lg G0 G1 G2;intro w2 q;have F:=q.f1;have lg:=(HC0.out _ q.wr.bel q.wr.base).1;have G0:=kid0 (HC0.out _ q.wr.bel q.wr.base).2;have G1:=kid1 (HC1.out _ q.wr.bel q.wr.base).2;have G2:=kid2 (HC2.out _ q.wr.bel q.wr.base).2)
  |(go_at_call 76;refine q.go (fun a1 a2 a3=>HW1.out a1 a2 a3) ?_;clear q F lg G0 G1 G2;intro w2 q;have F:=q.f1;have lg:=(HC0.out _ q.wr.bel q.wr.base).1;have G0:=kid0 (HC0.out _ q.wr.bel q.wr.base).2;have G1:=kid1 (HC1.out _ q.wr.bel q.wr.base).2;have G2:=kid2 (HC2.out _ q.wr.bel q.wr.base).2)
  |(go_at_call 115;refine q.go (fun a1 a2 a3=>HWO0.out a1 a2 a3) ?_;clear q F lg G0 G1 G2;intro w2 q;have F:=q.f1;have lg:=(HC0.out _ q.wr.bel q.wr.base).1;have G0:=kid0 (HC0.out _ q.wr.bel q.wr.base).2;have G1:=kid1 (HC1.out _ q.wr.bel q.wr.base).2;have G2:=kid2 (HC2.out _ q.wr.bel q.wr.base).2))
 all_goals(go_end0;exact q.done (by simp<;>rfl))
set_option maxRecDepth 100000 in
set_option maxHeartbeats 2000000 in
theorem e117_430 (hRs:∀g,g≤f→RN B w0 wb g) (ht:Tab B w0) (hnn:n=0) (hx:Nw B w0 (f+1) (nodeC 43 pos n m name (.slice ko kl kc)).toList):Wc B w0 wb 117 (nodeC 43 pos n m name (.slice ko kl kc)) (tok (f+1) w0 (nodeC 43 pos n m name (.slice ko kl kc)).toList):=by
 intro w bs h hne hf
 have hR:RN B w0 wb f:=@hRs f (Nat.le_refl f)
 have hcap:=hx.cap
 obtain⟨vs,hkl,hr,hg,htok,hs,hc⟩:=hx.opened
 rw[htok] at hf⊢
 clear htok hx
 obtain rfl:n=0:=hnn
 obtain rfl:kl=0:=by
  have:=(hg.elet rfl).2
  simp[hkl] at this
  omega
 have hk:∀x∈vs,noK (labOf x):=fun x hx=>(hg.elet rfl).1 _ (List.mem_map.2 ⟨x,hx,rfl⟩)
 have e:asm 43 0 m (name:ByteArray).data.toList (vs.map (kdAt f w0))=([108,101,116]::(pWhen (m==1) [[109,117,116]]++(tl name::(pWhen ((0:Int)%2==1) ([58]::(kd (vs.map (kdAt f w0)) 0).t)++pWhen (decide (2≤(0:Int))) ([61]::(kd (vs.map (kdAt f w0)) ((0:Int)%2).toNat).t)))))++[]:=by
  rw[List.append_nil];rfl
 rw[e] at hf⊢
 clear e
 have q:=(Sw.start h hne hf).box (nodeC 43 pos 0 m name (.slice ko 0 kc))
 have HF:Hid (NR B w0 f ko vs∧(∀i x,vs[i]? =some x→∃g,ko=some ⟨g,0,none⟩∧g<B∧∀j,j<11→w0.cell? ⟨g,i*11+j,none⟩=x[j]?)∧vs.length=0∧∀x∈vs,noK (labOf x)):=⟨hr,hc,hkl,hk⟩
 clear h hne hf hr hg hc hkl hcap hRs hk
 have F:=q.f1
 go_enter Tryz.func117,Tryz.ntmps117
 go_wp2_with (first
  |(go_at_call 132;refine q.go (fun a1 a2 a3=>let132_0 hR HF.out.1 HF.out.2.1 HF.out.2.2.1 HF.out.2.2.2 a1 a2 a3) ?_;clear q F;intro w2 q;have F:=q.f1))
 all_goals(go_end0;exact q.done (by simp<;>rfl))
set_option maxRecDepth 100000 in
set_option maxHeartbeats 2000000 in
theorem e117_431 (hRs:∀g,g≤f→RN B w0 wb g) (ht:Tab B w0) (hnn:n=1) (hx:Nw B w0 (f+1) (nodeC 43 pos n m name (.slice ko kl kc)).toList):Wc B w0 wb 117 (nodeC 43 pos n m name (.slice ko kl kc)) (tok (f+1) w0 (nodeC 43 pos n m name (.slice ko kl kc)).toList):=by
 intro w bs h hne hf
 have hR:RN B w0 wb f:=@hRs f (Nat.le_refl f)
 have hcap:=hx.cap
 obtain⟨vs,hkl,hr,hg,htok,hs,hc⟩:=hx.opened
 rw[htok] at hf⊢
 clear htok hx
 obtain rfl:n=1:=hnn
 obtain rfl:kl=1:=by
  have:=(hg.elet rfl).2
  simp[hkl] at this
  omega
 have hk:∀x∈vs,noK (labOf x):=fun x hx=>(hg.elet rfl).1 _ (List.mem_map.2 ⟨x,hx,rfl⟩)
 have e:asm 43 1 m (name:ByteArray).data.toList (vs.map (kdAt f w0))=([108,101,116]::(pWhen (m==1) [[109,117,116]]++(tl name::(pWhen ((1:Int)%2==1) ([58]::(kd (vs.map (kdAt f w0)) 0).t)++pWhen (decide (2≤(1:Int))) ([61]::(kd (vs.map (kdAt f w0)) ((1:Int)%2).toNat).t)))))++[]:=by
  rw[List.append_nil];rfl
 rw[e] at hf⊢
 clear e
 have q:=(Sw.start h hne hf).box (nodeC 43 pos 1 m name (.slice ko 1 kc))
 have HF:Hid (NR B w0 f ko vs∧(∀i x,vs[i]? =some x→∃g,ko=some ⟨g,0,none⟩∧g<B∧∀j,j<11→w0.cell? ⟨g,i*11+j,none⟩=x[j]?)∧vs.length=1∧∀x∈vs,noK (labOf x)):=⟨hr,hc,hkl,hk⟩
 clear h hne hf hr hg hc hkl hcap hRs hk
 have F:=q.f1
 go_enter Tryz.func117,Tryz.ntmps117
 go_wp2_with (first
  |(go_at_call 132;refine q.go (fun a1 a2 a3=>let132_1 hR HF.out.1 HF.out.2.1 HF.out.2.2.1 HF.out.2.2.2 a1 a2 a3) ?_;clear q F;intro w2 q;have F:=q.f1))
 all_goals(go_end0;exact q.done (by simp<;>rfl))
set_option maxRecDepth 100000 in
set_option maxHeartbeats 2000000 in
theorem e117_432 (hRs:∀g,g≤f→RN B w0 wb g) (ht:Tab B w0) (hnn:n=2) (hx:Nw B w0 (f+1) (nodeC 43 pos n m name (.slice ko kl kc)).toList):Wc B w0 wb 117 (nodeC 43 pos n m name (.slice ko kl kc)) (tok (f+1) w0 (nodeC 43 pos n m name (.slice ko kl kc)).toList):=by
 intro w bs h hne hf
 have hR:RN B w0 wb f:=@hRs f (Nat.le_refl f)
 have hcap:=hx.cap
 obtain⟨vs,hkl,hr,hg,htok,hs,hc⟩:=hx.opened
 rw[htok] at hf⊢
 clear htok hx
 obtain rfl:n=2:=hnn
 obtain rfl:kl=1:=by
  have:=(hg.elet rfl).2
  simp[hkl] at this
  omega
 have hk:∀x∈vs,noK (labOf x):=fun x hx=>(hg.elet rfl).1 _ (List.mem_map.2 ⟨x,hx,rfl⟩)
 have e:asm 43 2 m (name:ByteArray).data.toList (vs.map (kdAt f w0))=([108,101,116]::(pWhen (m==1) [[109,117,116]]++(tl name::(pWhen ((2:Int)%2==1) ([58]::(kd (vs.map (kdAt f w0)) 0).t)++pWhen (decide (2≤(2:Int))) ([61]::(kd (vs.map (kdAt f w0)) ((2:Int)%2).toNat).t)))))++[]:=by
  rw[List.append_nil];rfl
 rw[e] at hf⊢
 clear e
 have q:=(Sw.start h hne hf).box (nodeC 43 pos 2 m name (.slice ko 1 kc))
 have HF:Hid (NR B w0 f ko vs∧(∀i x,vs[i]? =some x→∃g,ko=some ⟨g,0,none⟩∧g<B∧∀j,j<11→w0.cell? ⟨g,i*11+j,none⟩=x[j]?)∧vs.length=1∧∀x∈vs,noK (labOf x)):=⟨hr,hc,hkl,hk⟩
 clear h hne hf hr hg hc hkl hcap hRs hk
 have F:=q.f1
 go_enter Tryz.func117,Tryz.ntmps117
 go_wp2_with (first
  |(go_at_call 132;refine q.go (fun a1 a2 a3=>let132_2 hR HF.out.1 HF.out.2.1 HF.out.2.2.1 HF.out.2.2.2 a1 a2 a3) ?_;clear q F;intro w2 q;have F:=q.f1))
 all_goals(go_end0;exact q.done (by simp<;>rfl))
set_option maxRecDepth 100000 in
set_option maxHeartbeats 2000000 in
theorem e117_433 (hRs:∀g,g≤f→RN B w0 wb g) (ht:Tab B w0) (hnn:n=3) (hx:Nw B w0 (f+1) (nodeC 43 pos n m name (.slice ko kl kc)).toList):Wc B w0 wb 117 (nodeC 43 pos n m name (.slice ko kl kc)) (tok (f+1) w0 (nodeC 43 pos n m name (.slice ko kl kc)).toList):=by
 intro w bs h hne hf
 have hR:RN B w0 wb f:=@hRs f (Nat.le_refl f)
 have hcap:=hx.cap
 obtain⟨vs,hkl,hr,hg,htok,hs,hc⟩:=hx.opened
 rw[htok] at hf⊢
 clear htok hx
 obtain rfl:n=3:=hnn
 obtain rfl:kl=2:=by
  have:=(hg.elet rfl).2
  simp[hkl] at this
  omega
 have hk:∀x∈vs,noK (labOf x):=fun x hx=>(hg.elet rfl).1 _ (List.mem_map.2 ⟨x,hx,rfl⟩)
 have e:asm 43 3 m (name:ByteArray).data.toList (vs.map (kdAt f w0))=([108,101,116]::(pWhen (m==1) [[109,117,116]]++(tl name::(pWhen ((3:Int)%2==1) ([58]::(kd (vs.map (kdAt f w0)) 0).t)++pWhen (decide (2≤(3:Int))) ([61]::(kd (vs.map (kdAt f w0)) ((3:Int)%2).toNat).t)))))++[]:=by
  rw[List.append_nil];rfl
 rw[e] at hf⊢
 clear e
 have q:=(Sw.start h hne hf).box (nodeC 43 pos 3 m name (.slice ko 2 kc))
 have HF:Hid (NR B w0 f ko vs∧(∀i x,vs[i]? =some x→∃g,ko=some ⟨g,0,none⟩∧g<B∧∀j,j<11→w0.cell? ⟨g,i*11+j,none⟩=x[j]?)∧vs.length=2∧∀x∈vs,noK (labOf x)):=⟨hr,hc,hkl,hk⟩
 clear h hne hf hr hg hc hkl hcap hRs hk
 have F:=q.f1
 go_enter Tryz.func117,Tryz.ntmps117
 go_wp2_with (first
  |(go_at_call 132;refine q.go (fun a1 a2 a3=>let132_3 hR HF.out.1 HF.out.2.1 HF.out.2.2.1 HF.out.2.2.2 a1 a2 a3) ?_;clear q F;intro w2 q;have F:=q.f1))
 all_goals(go_end0;exact q.done (by simp<;>rfl))
set_option maxRecDepth 100000 in
set_option maxHeartbeats 2000000 in
theorem e117_46 (hRs:∀g,g≤f→RN B w0 wb g) (ht:Tab B w0) (hx:Nw B w0 (f+1) (nodeC 46 pos n m name (.slice ko kl kc)).toList):Wc B w0 wb 117 (nodeC 46 pos n m name (.slice ko kl kc)) (tok (f+1) w0 (nodeC 46 pos n m name (.slice ko kl kc)).toList):=by
 intro w bs h hne hf
 have hR:RN B w0 wb f:=@hRs f (Nat.le_refl f)
 have hcap:=hx.cap
 obtain⟨vs,hkl,hr,hg,htok,hs,hc⟩:=hx.opened
 rw[htok] at hf⊢
 clear htok hx
 obtain⟨cs,ps,y1,y2,eks,hml,hcs,hps,nk1,nk2⟩:=hg.clos rfl
 obtain⟨mm,hmm⟩:∃mm,cs.length=mm:=⟨_,rfl⟩
 obtain⟨pp,hpp⟩:∃pp,ps.length=pp:=⟨_,rfl⟩
 obtain rfl:m=(mm:Int):=by rw[←hml,hmm]
 obtain rfl:kl=mm+pp+2:=by
  have:=congrArg List.length eks
  simp at this;omega
 obtain⟨cz,rfl⟩:∃cz,kc=mm+pp+2+cz:=⟨kc - (mm+pp+2),by omega⟩
 have hx0:(vs.map labOf)[mm+pp]? =some y1:=by
  rw[eks,←hmm,←hpp,List.getElem?_append_right (by omega),show cs.length+ps.length - cs.length=ps.length by omega,List.getElem?_append_right (Nat.le_refl _),Nat.sub_self];rfl
 have hx1:(vs.map labOf)[mm+pp+1]? =some y2:=by
  rw[eks,←hmm,←hpp,List.getElem?_append_right (by omega),show cs.length+ps.length+1 - cs.length=ps.length+1 by omega,List.getElem?_append_right (by omega),show ps.length+1 - ps.length=1 by omega];rfl
 have hl47:=labs_take eks hmm hcs
 have hl12:=labs_take (labs_drop eks hmm) hpp hps
 obtain⟨k0,p0,a0,b0,s0,o0,l0,c0,g,X0,Y0,Z0,e0,y0,z0,rfl,W0,WO0,WR0,C0⟩:=kid_w hR hr hc (i:=(mm+pp)) (by omega) (fun x hx=>by rw[lab_nth hx0 hx];exact nk1)
 obtain⟨k1,p1,a1,b1,s1,o1,l1,c1,g1,X1,Y1,Z1,e1,y1,z1,eg1,W1,WO1,WR1,C1⟩:=kid_w hR hr hc (i:=(mm+pp+1)) (by omega) (fun x hx=>by rw[lab_nth hx1 hx];exact nk2)
 obtain rfl:g=g1:=by simpa using eg1
 obtain⟨vt,hvt⟩:∃vt,vt=vs.take mm:=⟨_,rfl⟩
 have hvl:vt.length=mm:=by rw[hvt,List.length_take];omega
 have em2:(vs.map (kdAt f w0)).take mm=vt.map (kdAt f w0):=by rw[hvt,List.map_take]
 obtain⟨us,hus⟩:∃us,us=(vs.drop mm).take pp:=⟨_,rfl⟩
 have hul:us.length=pp:=by rw[hus,List.length_take,List.length_drop];omega
 have em:((vs.map (kdAt f w0)).take (mm+pp)).drop mm=us.map (kdAt f w0):=by rw[hus,List.drop_take,List.map_take,List.map_drop,show mm+pp - mm=pp by omega]
 have hb:=hr.few
 rw[hkl] at hb
 have e:asm 46 n mm (name:ByteArray).data.toList (vs.map (kdAt f w0))=[102,110]::(pFn n++(pRow [91] [93] (vt.map (kdAt f w0))++(pRow [40] [41] (us.map (kdAt f w0))++(Z0++(X1++[]))))):=by
  show [102,110]::(pFn n++(pRow [91] [93] ((vs.map (kdAt f w0)).take (mm:Int).toNat)++(pRow [40] [41] (((vs.map (kdAt f w0)).take ((vs.map (kdAt f w0)).length - 2)).drop (mm:Int).toNat)++(pRes (kd (vs.map (kdAt f w0)) ((vs.map (kdAt f w0)).length - 2))++(kd (vs.map (kdAt f w0)) ((vs.map (kdAt f w0)).length - 1)).t))))=_;rw[show(vs.map (kdAt f w0)).length - 2=mm+pp from by rw[List.length_map];omega,show(vs.map (kdAt f w0)).length - 1=mm+pp+1 from by rw[List.length_map];omega,Int.toNat_natCast,em,em2,e0,e1,z0,List.append_nil]
 rw[e] at hf⊢
 clear e
 have q:=(Sw.start h hne hf).box (nodeC 46 pos n mm name (.slice (some ⟨g,0,none⟩) (mm+pp+2) (mm+pp+2+cz)))
 have HWR0:Hid (Wc B w0 wb 96 (nodeC k0 p0 a0 b0 s0 (.slice o0 l0 c0)) Z0):=WR0
 have HC0:Hid (∀W,Below B w0 W→B≤W.heap.size→g<W.heap.size∧∀j,j<11→W.cell? ⟨g,(mm+pp)*11+j,none⟩=(nodeC k0 p0 a0 b0 s0 (.slice o0 l0 c0)).toList[j]?):=C0
 have HW1:Hid (Wc B w0 wb 76 (nodeC k1 p1 a1 b1 s1 (.slice o1 l1 c1)) X1):=W1
 have HC1:Hid (∀W,Below B w0 W→B≤W.heap.size→g<W.heap.size∧∀j,j<11→W.cell? ⟨g,(mm+pp+1)*11+j,none⟩=(nodeC k1 p1 a1 b1 s1 (.slice o1 l1 c1)).toList[j]?):=C1
 have HL:Hid (NR B w0 f (some ⟨g,mm*11,none⟩) us∧(∀x∈us,labOf x=12)∧us.length=pp):=⟨by have:=(hr.drop mm).take pp;rw[←hus] at this;simpa using this,by rw[hus];exact hl12,hul⟩
 have HT:Hid (NR B w0 f (some ⟨g,0,none⟩) vt∧(∀x∈vt,labOf x=47)∧vt.length=mm):=⟨by have:=hr.take mm;rwa [←hvt] at this,by rw[hvt];exact hl47,hvl⟩
 have HRs:Hid (∀g,g≤f→RN B w0 wb g):=fun g hg=>@hRs g hg
 have hbI:(mm:Int)+(pp:Int)+2≤20000:=by omega
 clear e0 y0 z0 W0 WO0 WR0 C0
 clear e1 y1 z1 W1 WO1 WR1 C1 eg1
 clear h hne hf hr hg hc hkl hcap hRs hus hul em hvt hvl em2 hb eks hml hcs hps nk1 nk2 hmm hpp hx0 hx1 hl47 hl12
 have F:=q.f1
 have lg:=(HC0.out _ q.wr.bel q.wr.base).1
 have G0:=kidn (HC0.out _ q.wr.bel q.wr.base).2
 have G1:=kidn (HC1.out _ q.wr.bel q.wr.base).2
 go_enter Tryz.func117,Tryz.ntmps117
 go_wp2_with (first
  |(go_at_call 33;refine q.put ?_;clear q F lg G0 G1;intro w2 q;have F:=q.f1;have lg:=(HC0.out _ q.wr.bel q.wr.base).1;have G0:=kidn (HC0.out _ q.wr.bel q.wr.base).2;have G1:=kidn (HC1.out _ q.wr.bel q.wr.base).2)
  |(go_at_call 95;refine q.go (fun a1 a2 a3=>params95n HRs.out HL.out.1 HL.out.2.1 HL.out.2.2 a1 a2 a3) ?_;clear q F lg G0 G1;intro w2 q;have F:=q.f1;have lg:=(HC0.out _ q.wr.bel q.wr.base).1;have G0:=kidn (HC0.out _ q.wr.bel q.wr.base).2;have G1:=kidn (HC1.out _ q.wr.bel q.wr.base).2)
  |(go_at_call 133;refine q.go (fun a1 a2 a3=>caps133n HT.out.1 HT.out.2.1 HT.out.2.2 a1 a2 a3) ?_;clear q F lg G0 G1;intro w2 q;have F:=q.f1;have lg:=(HC0.out _ q.wr.bel q.wr.base).1;have G0:=kidn (HC0.out _ q.wr.bel q.wr.base).2;have G1:=kidn (HC1.out _ q.wr.bel q.wr.base).2)
  |(go_at_call 113;refine q.go (fun a1 a2 a3=>kind113 n a1 a2 a3) ?_;clear q F lg G0 G1;intro w2 q;have F:=q.f1;have lg:=(HC0.out _ q.wr.bel q.wr.base).1;have G0:=kidn (HC0.out _ q.wr.bel q.wr.base).2;have G1:=kidn (HC1.out _ q.wr.bel q.wr.base).2)
  |(go_at_call 96;refine q.go (fun a1 a2 a3=>HWR0.out a1 a2 a3) ?_;clear q F lg G0 G1;intro w2 q;have F:=q.f1;have lg:=(HC0.out _ q.wr.bel q.wr.base).1;have G0:=kidn (HC0.out _ q.wr.bel q.wr.base).2;have G1:=kidn (HC1.out _ q.wr.bel q.wr.base).2)
  |(go_at_call 76;refine q.go (fun a1 a2 a3=>HW1.out a1 a2 a3) ?_;clear q F lg G0 G1;intro w2 q;have F:=q.f1;have lg:=(HC0.out _ q.wr.bel q.wr.base).1;have G0:=kidn (HC0.out _ q.wr.bel q.wr.base).2;have G1:=kidn (HC1.out _ q.wr.bel q.wr.base).2))
 all_goals(go_end0;exact q.done (by simp<;>rfl))
set_option maxRecDepth 100000 in
set_option maxHeartbeats 2000000 in
theorem e117_48 (hRs:∀g,g≤f→RN B w0 wb g) (ht:Tab B w0) (hx:Nw B w0 (f+1) (nodeC 48 pos n m name (.slice ko kl kc)).toList):Wc B w0 wb 117 (nodeC 48 pos n m name (.slice ko kl kc)) (tok (f+1) w0 (nodeC 48 pos n m name (.slice ko kl kc)).toList):=by
 intro w bs h hne hf
 have hR:RN B w0 wb f:=@hRs f (Nat.le_refl f)
 have hcap:=hx.cap
 obtain⟨vs,hkl,hr,hg,htok,hs,hc⟩:=hx.opened
 rw[htok] at hf⊢
 clear htok hx
 obtain⟨cs,y1,y2,eks,hml,hcs,nk1,nk2⟩:=hg.spawn rfl
 obtain⟨mm,hmm⟩:∃mm,cs.length=mm:=⟨_,rfl⟩
 obtain rfl:m=(mm:Int):=by rw[←hml,hmm]
 obtain rfl:kl=mm+2:=by
  have:=congrArg List.length eks
  simp at this;omega
 have hx0:(vs.map labOf)[mm]? =some y1:=by
  rw[eks,←hmm,List.getElem?_append_right (Nat.le_refl _),Nat.sub_self];rfl
 have hx1:(vs.map labOf)[mm+1]? =some y2:=by
  rw[eks,←hmm,List.getElem?_append_right (by omega),show cs.length+1 - cs.length=1 by omega];rfl
 have hl47:=labs_take eks hmm hcs
 obtain⟨k0,p0,a0,b0,s0,o0,l0,c0,g,X0,Y0,Z0,e0,y0,z0,rfl,W0,WO0,WR0,C0⟩:=kid_w hR hr hc (i:=mm) (by omega) (fun x hx=>by rw[lab_nth hx0 hx];exact nk1)
 obtain⟨k1,p1,a1,b1,s1,o1,l1,c1,g1,X1,Y1,Z1,e1,y1,z1,eg1,W1,WO1,WR1,C1⟩:=kid_w hR hr hc (i:=(mm+1)) (by omega) (fun x hx=>by rw[lab_nth hx1 hx];exact nk2)
 obtain rfl:g=g1:=by simpa using eg1
 obtain⟨vt,hvt⟩:∃vt,vt=vs.take mm:=⟨_,rfl⟩
 have hvl:vt.length=mm:=by rw[hvt,List.length_take];omega
 have em2:(vs.map (kdAt f w0)).take mm=vt.map (kdAt f w0):=by rw[hvt,List.map_take]
 have hb:=hr.few
 rw[hkl] at hb
 have e:asm 48 n mm (name:ByteArray).data.toList (vs.map (kdAt f w0))=[115,112,97,119,110]::(pRow [91] [93] (vt.map (kdAt f w0))++(Z0++(X1++[]))):=by
  show [115,112,97,119,110]::(pRow [91] [93] ((vs.map (kdAt f w0)).take (mm:Int).toNat)++(pRes (kd (vs.map (kdAt f w0)) (mm:Int).toNat)++(kd (vs.map (kdAt f w0)) ((mm:Int).toNat+1)).t))=_;rw[Int.toNat_natCast,em2,e0,e1,z0,List.append_nil]
 rw[e] at hf⊢
 clear e
 have q:=(Sw.start h hne hf).box (nodeC 48 pos n mm name (.slice (some ⟨g,0,none⟩) (mm+2) kc))
 have HWR0:Hid (Wc B w0 wb 96 (nodeC k0 p0 a0 b0 s0 (.slice o0 l0 c0)) Z0):=WR0
 have HC0:Hid (∀W,Below B w0 W→B≤W.heap.size→g<W.heap.size∧∀j,j<11→W.cell? ⟨g,mm*11+j,none⟩=(nodeC k0 p0 a0 b0 s0 (.slice o0 l0 c0)).toList[j]?):=C0
 have HW1:Hid (Wc B w0 wb 76 (nodeC k1 p1 a1 b1 s1 (.slice o1 l1 c1)) X1):=W1
 have HC1:Hid (∀W,Below B w0 W→B≤W.heap.size→g<W.heap.size∧∀j,j<11→W.cell? ⟨g,(mm+1)*11+j,none⟩=(nodeC k1 p1 a1 b1 s1 (.slice o1 l1 c1)).toList[j]?):=C1
 have HT:Hid (NR B w0 f (some ⟨g,0,none⟩) vt∧(∀x∈vt,labOf x=47)∧vt.length=mm):=⟨by have:=hr.take mm;rwa [←hvt] at this,by rw[hvt];exact hl47,hvl⟩
 have hbI:(mm:Int)+2≤20000:=by omega
 have hcI:(mm:Int)+2≤(kc:Int):=by omega
 have hcI2:(mm:Int)≤(kc:Int):=by omega
 clear e0 y0 z0 W0 WO0 WR0 C0
 clear e1 y1 z1 W1 WO1 WR1 C1 eg1
 clear h hne hf hr hg hc hkl hcap hRs hvt hvl em2 hb eks hml hcs nk1 nk2 hmm hx0 hx1 hl47
 have F:=q.f1
 have lg:=(HC0.out _ q.wr.bel q.wr.base).1
 have G0:=kidn (HC0.out _ q.wr.bel q.wr.base).2
 have G1:=kidn (HC1.out _ q.wr.bel q.wr.base).2
 go_enter Tryz.func117,Tryz.ntmps117
 go_wp2_with (first
  |(go_at_call 33;refine q.put ?_;clear q F lg G0 G1;intro w2 q;have F:=q.f1;have lg:=(HC0.out _ q.wr.bel q.wr.base).1;have G0:=kidn (HC0.out _ q.wr.bel q.wr.base).2;have G1:=kidn (HC1.out _ q.wr.bel q.wr.base).2)
  |(go_at_call 133;refine q.go (fun a1 a2 a3=>caps133n HT.out.1 HT.out.2.1 HT.out.2.2 a1 a2 a3) ?_;clear q F lg G0 G1;intro w2 q;have F:=q.f1;have lg:=(HC0.out _ q.wr.bel q.wr.base).1;have G0:=kidn (HC0.out _ q.wr.bel q.wr.base).2;have G1:=kidn (HC1.out _ q.wr.bel q.wr.base).2)
  |(go_at_call 96;refine q.go (fun a1 a2 a3=>HWR0.out a1 a2 a3) ?_;clear q F lg G0 G1;intro w2 q;have F:=q.f1;have lg:=(HC0.out _ q.wr.bel q.wr.base).1;have G0:=kidn (HC0.out _ q.wr.bel q.wr.base).2;have G1:=kidn (HC1.out _ q.wr.bel q.wr.base).2)
  |(go_at_call 76;refine q.go (fun a1 a2 a3=>HW1.out a1 a2 a3) ?_;clear q F lg G0 G1;intro w2 q;have F:=q.f1;have lg:=(HC0.out _ q.wr.bel q.wr.base).1;have G0:=kidn (HC0.out _ q.wr.bel q.wr.base).2;have G1:=kidn (HC1.out _ q.wr.bel q.wr.base).2))
 all_goals(go_end0;exact q.done (by simp<;>rfl))
end
end Go.Proofs.YtagdihffmjopaaaGreatDoor
