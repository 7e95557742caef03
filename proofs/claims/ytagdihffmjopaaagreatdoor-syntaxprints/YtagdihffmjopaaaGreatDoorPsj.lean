/- The project's writer: expressions that say where to go on. -/
import Derived.Test.YtagdihffmjopaaaGreatDoorPta
namespace Go.Proofs.YtagdihffmjopaaaGreatDoor
set_option linter.all false
open Go.RowKit
section
variable{B:Nat} {w0 w:World} {wb f:Nat} {ts0:List (List UInt8)} {kind pos n m:Int} {name:ByteArray} {ko:Option Addr} {kl kc:Nat}
set_option maxRecDepth 100000 in
set_option maxHeartbeats 1000000 in
theorem p68_38 (hR:RP B w0 wb f) (hm:Mx B w0) (ht:Tab B w0) (hx:Nw B w0 (f+1) (nodeC 38 pos n m name (.slice ko kl kc)).toList):Wq B w0 wb 68 (nodeC 38 pos n m name (.slice ko kl kc)) (tok (f+1) w0 (nodeC 38 pos n m name (.slice ko kl kc)).toList):=by
 intro w ts0 h hf
 have hcap:=hx.cap
 obtain⟨vs,hkl,hr,hg,htok,hs,hc⟩:=hx.opened
 rw[htok] at hf⊢
 clear htok hx
 have e:asm 38 n m (name:ByteArray).data.toList (vs.map (kdAt f w0))=[98,114,101,97,107]::[]:=by
  rfl
 rw[e] at hf⊢
 clear e
 have q:=(Sp.start h hf).box (nodeC 38 pos n m name (.slice ko kl kc))
 clear h hf hr hg hc hkl hcap
 have F:=q.f1
 go_enter Tryz.func68,Tryz.ntmps68
 go_wp2_with (first
  |(go_at_call 47;refine q.put ?_;clear q F;intro w2 q;have F:=q.f1))
 all_goals(go_end0;exact q.done (rfl))
set_option maxRecDepth 100000 in
set_option maxHeartbeats 1000000 in
theorem p68_39 (hR:RP B w0 wb f) (hm:Mx B w0) (ht:Tab B w0) (hx:Nw B w0 (f+1) (nodeC 39 pos n m name (.slice ko kl kc)).toList):Wq B w0 wb 68 (nodeC 39 pos n m name (.slice ko kl kc)) (tok (f+1) w0 (nodeC 39 pos n m name (.slice ko kl kc)).toList):=by
 intro w ts0 h hf
 have hcap:=hx.cap
 obtain⟨vs,hkl,hr,hg,htok,hs,hc⟩:=hx.opened
 rw[htok] at hf⊢
 clear htok hx
 have e:asm 39 n m (name:ByteArray).data.toList (vs.map (kdAt f w0))=[110,101,120,116]::[]:=by
  rfl
 rw[e] at hf⊢
 clear e
 have q:=(Sp.start h hf).box (nodeC 39 pos n m name (.slice ko kl kc))
 clear h hf hr hg hc hkl hcap
 have F:=q.f1
 go_enter Tryz.func68,Tryz.ntmps68
 go_wp2_with (first
  |(go_at_call 47;refine q.put ?_;clear q F;intro w2 q;have F:=q.f1))
 all_goals(go_end0;exact q.done (rfl))
set_option maxRecDepth 100000 in
set_option maxHeartbeats 1000000 in
theorem p68_41 (hR:RP B w0 wb f) (hm:Mx B w0) (ht:Tab B w0) (hx:Nw B w0 (f+1) (nodeC 41 pos n m name (.slice ko kl kc)).toList):Wq B w0 wb 68 (nodeC 41 pos n m name (.slice ko kl kc)) (tok (f+1) w0 (nodeC 41 pos n m name (.slice ko kl kc)).toList):=by
 intro w ts0 h hf
 have hcap:=hx.cap
 obtain⟨vs,hkl,hr,hg,htok,hs,hc⟩:=hx.opened
 rw[htok] at hf⊢
 clear htok hx
 have e:asm 41 n m (name:ByteArray).data.toList (vs.map (kdAt f w0))=[112,97,110,105,99]::[]:=by
  rfl
 rw[e] at hf⊢
 clear e
 have q:=(Sp.start h hf).box (nodeC 41 pos n m name (.slice ko kl kc))
 clear h hf hr hg hc hkl hcap
 have F:=q.f1
 go_enter Tryz.func68,Tryz.ntmps68
 go_wp2_with (first
  |(go_at_call 47;refine q.put ?_;clear q F;intro w2 q;have F:=q.f1))
 all_goals(go_end0;exact q.done (rfl))
set_option maxRecDepth 100000 in
set_option maxHeartbeats 1000000 in
theorem p68_36 (hR:RP B w0 wb f) (hm:Mx B w0) (ht:Tab B w0) (hx:Nw B w0 (f+1) (nodeC 36 pos n m name (.slice ko kl kc)).toList):Wq B w0 wb 68 (nodeC 36 pos n m name (.slice ko kl kc)) (tok (f+1) w0 (nodeC 36 pos n m name (.slice ko kl kc)).toList):=by
 intro w ts0 h hf
 have hcap:=hx.cap
 obtain⟨vs,hkl,hr,hg,htok,hs,hc⟩:=hx.opened
 rw[htok] at hf⊢
 clear htok hx
 have hn:=NK.of hr hg (by unfold kidK frK;omega)
 obtain rfl:kl=2:=by
  obtain⟨y,z,eks,-,-⟩:=hg.two (by decide)
  have:=congrArg List.length eks
  simp at this;omega
 obtain⟨k0,p0,a0,b0,s0,o0,l0,c0,g,X0,Y0,Z0,e0,y0,z0,rfl,W0,WO0,WR0,C0⟩:=kid_p hR hn hc (i:=0) (by omega)
 obtain⟨k1,p1,a1,b1,s1,o1,l1,c1,g1,X1,Y1,Z1,e1,y1,z1,eg1,W1,WO1,WR1,C1⟩:=kid_p hR hn hc (i:=1) (by omega)
 obtain rfl:g=g1:=by simpa using eg1
 have e:asm 36 n m (name:ByteArray).data.toList (vs.map (kdAt f w0))=[119,104,105,108,101]::(Y0++(X1++[])):=by
  show [119,104,105,108,101]::(pOp (kd (vs.map (kdAt f w0)) 0)++(kd (vs.map (kdAt f w0)) 1).t)=_;rw[e0,e1,y0,List.append_nil]
 rw[e] at hf⊢
 clear e
 have q:=(Sp.start h hf).box (nodeC 36 pos n m name (.slice (some ⟨g,0,none⟩) 2 kc))
 have HWO0:Hid (Wq B w0 wb 63 (nodeC k0 p0 a0 b0 s0 (.slice o0 l0 c0)) Y0):=WO0
 have HC0:Hid (∀W,Below B w0 W→B≤W.heap.size→g<W.heap.size∧∀j,j<11→W.cell? ⟨g,0*11+j,none⟩=(nodeC k0 p0 a0 b0 s0 (.slice o0 l0 c0)).toList[j]?):=C0
 have HW1:Hid (Wq B w0 wb 14 (nodeC k1 p1 a1 b1 s1 (.slice o1 l1 c1)) X1):=W1
 have HC1:Hid (∀W,Below B w0 W→B≤W.heap.size→g<W.heap.size∧∀j,j<11→W.cell? ⟨g,1*11+j,none⟩=(nodeC k1 p1 a1 b1 s1 (.slice o1 l1 c1)).toList[j]?):=C1
 clear e0 y0 z0 W0 WO0 WR0 C0
 clear e1 y1 z1 W1 WO1 WR1 C1 eg1
 clear h hf hr hg hc hkl hcap hn
 have F:=q.f1
 have lg:=(HC0.out _ q.wr.bel q.wr.base).1
 have G0:=kid0 (HC0.out _ q.wr.bel q.wr.base).2
 have G1:=kid1 (HC1.out _ q.wr.bel q.wr.base).2
 go_enter Tryz.func68,Tryz.ntmps68
 go_wp2_with (first
  |(go_at_call 47;refine q.put ?_;clear q F lg G0 G1;intro w2 q;have F:=q.f1;have lg:=(HC0.out _ q.wr.bel q.wr.base).1;have G0:=kid0 (HC0.out _ q.wr.bel q.wr.base).2;have G1:=kid1 (HC1.out _ q.wr.bel q.wr.base).2)
  |(go_at_call 14;refine q.go (fun a1 a2=>HW1.out a1 a2) ?_;clear q F lg G0 G1;intro w2 q;have F:=q.f1;have lg:=(HC0.out _ q.wr.bel q.wr.base).1;have G0:=kid0 (HC0.out _ q.wr.bel q.wr.base).2;have G1:=kid1 (HC1.out _ q.wr.bel q.wr.base).2)
  |(go_at_call 63;refine q.go (fun a1 a2=>HWO0.out a1 a2) ?_;clear q F lg G0 G1;intro w2 q;have F:=q.f1;have lg:=(HC0.out _ q.wr.bel q.wr.base).1;have G0:=kid0 (HC0.out _ q.wr.bel q.wr.base).2;have G1:=kid1 (HC1.out _ q.wr.bel q.wr.base).2))
 all_goals(go_end0;exact q.done (by simp<;>rfl))
set_option maxRecDepth 100000 in
set_option maxHeartbeats 1000000 in
theorem p68_35 (hR:RP B w0 wb f) (hm:Mx B w0) (ht:Tab B w0) (hx:Nw B w0 (f+1) (nodeC 35 pos n m name (.slice ko kl kc)).toList):Wq B w0 wb 68 (nodeC 35 pos n m name (.slice ko kl kc)) (tok (f+1) w0 (nodeC 35 pos n m name (.slice ko kl kc)).toList):=by
 intro w ts0 h hf
 have hcap:=hx.cap
 obtain⟨vs,hkl,hr,hg,htok,hs,hc⟩:=hx.opened
 rw[htok] at hf⊢
 clear htok hx
 have hn:=NK.of hr hg (by unfold kidK frK;omega)
 have e:asm 35 n m (name:ByteArray).data.toList (vs.map (kdAt f w0))=pSep (tl ⟨#[61,62]⟩) (vs.map (kdAt f w0))++[]:=by
  rw[List.append_nil];rfl
 rw[e] at hf⊢
 clear e
 have q:=(Sp.start h hf).box (nodeC 35 pos n m name (.slice ko kl kc))
 have HL:Hid (NK B w0 f ko vs∧vs.length=kl):=⟨hn,hkl⟩
 clear h hf hr hg hc hkl hcap hn
 have F:=q.f1
 go_enter Tryz.func68,Tryz.ntmps68
 go_wp2_with (first
  |(go_at_call 57;refine q.go (fun a1 a2=>between57 hR ⟨#[61,62]⟩ HL.out.1 HL.out.2 a1 a2) ?_;clear q F;intro w2 q;have F:=q.f1))
 all_goals(go_end0;exact q.done (by simp<;>rfl))
set_option maxRecDepth 100000 in
set_option maxHeartbeats 1000000 in
theorem p68_37 (hR:RP B w0 wb f) (hm:Mx B w0) (ht:Tab B w0) (hx:Nw B w0 (f+1) (nodeC 37 pos n m name (.slice ko kl kc)).toList):Wq B w0 wb 68 (nodeC 37 pos n m name (.slice ko kl kc)) (tok (f+1) w0 (nodeC 37 pos n m name (.slice ko kl kc)).toList):=by
 intro w ts0 h hf
 have hcap:=hx.cap
 obtain⟨vs,hkl,hr,hg,htok,hs,hc⟩:=hx.opened
 rw[htok] at hf⊢
 clear htok hx
 have hn:=NK.of hr hg (by unfold kidK frK;omega)
 have e:asm 37 n m (name:ByteArray).data.toList (vs.map (kdAt f w0))=[108,111,111,112]::(pAll (vs.map (kdAt f w0))++[]):=by
  rw[List.append_nil];rfl
 rw[e] at hf⊢
 clear e
 have q:=(Sp.start h hf).box (nodeC 37 pos n m name (.slice ko kl kc))
 have HL:Hid (NK B w0 f ko vs∧vs.length=kl):=⟨hn,hkl⟩
 clear h hf hr hg hc hkl hcap hn
 have F:=q.f1
 go_enter Tryz.func68,Tryz.ntmps68
 go_wp2_with (first
  |(go_at_call 47;refine q.put ?_;clear q F;intro w2 q;have F:=q.f1)
  |(go_at_call 46;refine q.go (fun a1 a2=>nodes46 hR HL.out.1 HL.out.2 a1 a2) ?_;clear q F;intro w2 q;have F:=q.f1))
 all_goals(go_end0;exact q.done (by simp<;>rfl))
set_option maxRecDepth 100000 in
set_option maxHeartbeats 1000000 in
theorem p68_40 (hR:RP B w0 wb f) (hm:Mx B w0) (ht:Tab B w0) (hx:Nw B w0 (f+1) (nodeC 40 pos n m name (.slice ko kl kc)).toList):Wq B w0 wb 68 (nodeC 40 pos n m name (.slice ko kl kc)) (tok (f+1) w0 (nodeC 40 pos n m name (.slice ko kl kc)).toList):=by
 intro w ts0 h hf
 have hcap:=hx.cap
 obtain⟨vs,hkl,hr,hg,htok,hs,hc⟩:=hx.opened
 rw[htok] at hf⊢
 clear htok hx
 have hn:=NK.of hr hg (by unfold kidK frK;omega)
 have e:asm 40 n m (name:ByteArray).data.toList (vs.map (kdAt f w0))=[114,101,116,117,114,110]::(pAll (vs.map (kdAt f w0))++[]):=by
  rw[List.append_nil];rfl
 rw[e] at hf⊢
 clear e
 have q:=(Sp.start h hf).box (nodeC 40 pos n m name (.slice ko kl kc))
 have HL:Hid (NK B w0 f ko vs∧vs.length=kl):=⟨hn,hkl⟩
 clear h hf hr hg hc hkl hcap hn
 have F:=q.f1
 go_enter Tryz.func68,Tryz.ntmps68
 go_wp2_with (first
  |(go_at_call 47;refine q.put ?_;clear q F;intro w2 q;have F:=q.f1)
  |(go_at_call 46;refine q.go (fun a1 a2=>nodes46 hR HL.out.1 HL.out.2 a1 a2) ?_;clear q F;intro w2 q;have F:=q.f1))
 all_goals(go_end0;exact q.done (by simp<;>rfl))
set_option maxRecDepth 100000 in
set_option maxHeartbeats 1000000 in
theorem p68_33a (hR:RP B w0 wb f) (hm:Mx B w0) (ht:Tab B w0) (hkn:kl=2) (hx:Nw B w0 (f+1) (nodeC 33 pos n m name (.slice ko kl kc)).toList):Wq B w0 wb 68 (nodeC 33 pos n m name (.slice ko kl kc)) (tok (f+1) w0 (nodeC 33 pos n m name (.slice ko kl kc)).toList):=by
 intro w ts0 h hf
 have hcap:=hx.cap
 obtain⟨vs,hkl,hr,hg,htok,hs,hc⟩:=hx.opened
 rw[htok] at hf⊢
 clear htok hx
 have hn:=NK.of hr hg (by unfold kidK frK;omega)
 obtain rfl:kl=2:=hkn
 obtain⟨cz,rfl⟩:∃cz,kc=2+cz:=⟨kc - 2,by omega⟩
 obtain⟨k0,p0,a0,b0,s0,o0,l0,c0,g,X0,Y0,Z0,e0,y0,z0,rfl,W0,WO0,WR0,C0⟩:=kid_p hR hn hc (i:=0) (by omega)
 obtain⟨k1,p1,a1,b1,s1,o1,l1,c1,g1,X1,Y1,Z1,e1,y1,z1,eg1,W1,WO1,WR1,C1⟩:=kid_p hR hn hc (i:=1) (by omega)
 obtain rfl:g=g1:=by simpa using eg1
 obtain⟨us,hus⟩:∃us,us=vs.drop 2:=⟨_,rfl⟩
 have hul:us.length=0:=by rw[hus,List.length_drop];omega
 have em:(vs.map (kdAt f w0)).drop 2=us.map (kdAt f w0):=by rw[hus,List.map_drop]
 have e:asm 33 n m (name:ByteArray).data.toList (vs.map (kdAt f w0))=[105,102]::(Y0++(X1++(pWhen false [[101,108,115,101]]++(pAll (us.map (kdAt f w0))++[])))):=by
  show [105,102]::(pOp (kd (vs.map (kdAt f w0)) 0)++((kd (vs.map (kdAt f w0)) 1).t++(pWhen (decide (2<(vs.map (kdAt f w0)).length)) [[101,108,115,101]]++pAll ((vs.map (kdAt f w0)).drop 2))))=_;rw[e0,e1,y0,em,show(vs.map (kdAt f w0)).length=2 from by rw[List.length_map];exact hkl,List.append_nil];rfl
 rw[e] at hf⊢
 clear e
 have q:=(Sp.start h hf).box (nodeC 33 pos n m name (.slice (some ⟨g,0,none⟩) 2 (2+cz)))
 have HWO0:Hid (Wq B w0 wb 63 (nodeC k0 p0 a0 b0 s0 (.slice o0 l0 c0)) Y0):=WO0
 have HC0:Hid (∀W,Below B w0 W→B≤W.heap.size→g<W.heap.size∧∀j,j<11→W.cell? ⟨g,0*11+j,none⟩=(nodeC k0 p0 a0 b0 s0 (.slice o0 l0 c0)).toList[j]?):=C0
 have HW1:Hid (Wq B w0 wb 14 (nodeC k1 p1 a1 b1 s1 (.slice o1 l1 c1)) X1):=W1
 have HC1:Hid (∀W,Below B w0 W→B≤W.heap.size→g<W.heap.size∧∀j,j<11→W.cell? ⟨g,1*11+j,none⟩=(nodeC k1 p1 a1 b1 s1 (.slice o1 l1 c1)).toList[j]?):=C1
 have HL:Hid (NK B w0 f (some ⟨g,22,none⟩) us∧us.length=0):=⟨by have:=hn.drop 2;rw[←hus] at this;simpa using this,hul⟩
 have HZ:Hid (∀a,cz=0→NK B w0 f a us):=fun a hz=>by
  obtain rfl:us=[]:=List.eq_nil_of_length_eq_zero (by omega)
  exact NK.nil
 clear e0 y0 z0 W0 WO0 WR0 C0
 clear e1 y1 z1 W1 WO1 WR1 C1 eg1
 clear h hf hr hg hc hkl hcap hn hus hul em
 have F:=q.f1
 have lg:=(HC0.out _ q.wr.bel q.wr.base).1
 have G0:=kid0 (HC0.out _ q.wr.bel q.wr.base).2
 have G1:=kid1 (HC1.out _ q.wr.bel q.wr.base).2
 go_enter Tryz.func68,Tryz.ntmps68
 go_wp2_with (first
  |(go_at_call 47;refine q.put ?_;clear q F lg G0 G1;intro w2 q;have F:=q.f1;have lg:=(HC0.out _ q.wr.bel q.wr.base).1;have G0:=kid0 (HC0.out _ q.wr.bel q.wr.base).2;have G1:=kid1 (HC1.out _ q.wr.bel q.wr.base).2)
  |(go_at_call 56;refine q.when (ss:=[⟨#[101,108,115,101]⟩]) ?_;clear q F lg G0 G1;intro w2 q;have F:=q.f1;have lg:=(HC0.out _ q.wr.bel q.wr.base).1;have G0:=kid0 (HC0.out _ q.wr.bel q.wr.base).2;have G1:=kid1 (HC1.out _ q.wr.bel q.wr.base).2)
  |(go_at_call 46;refine q.go (fun a1 a2=>nodes46 hR (HZ.out _ (by first|rfl|assumption|omega)) HL.out.2 a1 a2) ?_;clear q F lg G0 G1;intro w2 q;have F:=q.f1;have lg:=(HC0.out _ q.wr.bel q.wr.base).1;have G0:=kid0 (HC0.out _ q.wr.bel q.wr.base).2;have G1:=kid1 (HC1.out _ q.wr.bel q.wr.base).2)
  |(go_at_call 46;refine q.go (fun a1 a2=>nodes46 hR HL.out.1 HL.out.2 a1 a2) ?_;clear q F lg G0 G1;intro w2 q;have F:=q.f1;have lg:=(HC0.out _ q.wr.bel q.wr.base).1;have G0:=kid0 (HC0.out _ q.wr.bel q.wr.base).2;have G1:=kid1 (HC1.out _ q.wr.bel q.wr.base).2)
  |(go_at_call 14;refine q.go (fun a1 a2=>HW1.out a1 a2) ?_;clear q F lg G0 G1;intro w2 q;have F:=q.f1;have lg:=(HC0.out _ q.wr.bel q.wr.base).1;have G0:=kid0 (HC0.out _ q.wr.bel q.wr.base).2;have G1:=kid1 (HC1.out _ q.wr.bel q.wr.base).2)
  |(go_at_call 63;refine q.go (fun a1 a2=>HWO0.out a1 a2) ?_;clear q F lg G0 G1;intro w2 q;have F:=q.f1;have lg:=(HC0.out _ q.wr.bel q.wr.base).1;have G0:=kid0 (HC0.out _ q.wr.bel q.wr.base).2;have G1:=kid1 (HC1.out _ q.wr.bel q.wr.base).2))
 all_goals(go_end0;exact q.done (by simp<;>rfl))
set_option maxRecDepth 100000 in
set_option maxHeartbeats 1000000 in
theorem p68_33b (hR:RP B w0 wb f) (hm:Mx B w0) (ht:Tab B w0) (hkn:kl=3) (hx:Nw B w0 (f+1) (nodeC 33 pos n m name (.slice ko kl kc)).toList):Wq B w0 wb 68 (nodeC 33 pos n m name (.slice ko kl kc)) (tok (f+1) w0 (nodeC 33 pos n m name (.slice ko kl kc)).toList):=by
 intro w ts0 h hf
 have hcap:=hx.cap
 obtain⟨vs,hkl,hr,hg,htok,hs,hc⟩:=hx.opened
 rw[htok] at hf⊢
 clear htok hx
 have hn:=NK.of hr hg (by unfold kidK frK;omega)
 obtain rfl:kl=3:=hkn
 obtain⟨cz,rfl⟩:∃cz,kc=2+cz:=⟨kc - 2,by omega⟩
 obtain⟨k0,p0,a0,b0,s0,o0,l0,c0,g,X0,Y0,Z0,e0,y0,z0,rfl,W0,WO0,WR0,C0⟩:=kid_p hR hn hc (i:=0) (by omega)
 obtain⟨k1,p1,a1,b1,s1,o1,l1,c1,g1,X1,Y1,Z1,e1,y1,z1,eg1,W1,WO1,WR1,C1⟩:=kid_p hR hn hc (i:=1) (by omega)
 obtain rfl:g=g1:=by simpa using eg1
 obtain⟨us,hus⟩:∃us,us=vs.drop 2:=⟨_,rfl⟩
 have hul:us.length=1:=by rw[hus,List.length_drop];omega
 have em:(vs.map (kdAt f w0)).drop 2=us.map (kdAt f w0):=by rw[hus,List.map_drop]
 have e:asm 33 n m (name:ByteArray).data.toList (vs.map (kdAt f w0))=[105,102]::(Y0++(X1++(pWhen true [[101,108,115,101]]++(pAll (us.map (kdAt f w0))++[])))):=by
  show [105,102]::(pOp (kd (vs.map (kdAt f w0)) 0)++((kd (vs.map (kdAt f w0)) 1).t++(pWhen (decide (2<(vs.map (kdAt f w0)).length)) [[101,108,115,101]]++pAll ((vs.map (kdAt f w0)).drop 2))))=_;rw[e0,e1,y0,em,show(vs.map (kdAt f w0)).length=3 from by rw[List.length_map];exact hkl,List.append_nil];rfl
 rw[e] at hf⊢
 clear e
 have q:=(Sp.start h hf).box (nodeC 33 pos n m name (.slice (some ⟨g,0,none⟩) 3 (2+cz)))
 have HWO0:Hid (Wq B w0 wb 63 (nodeC k0 p0 a0 b0 s0 (.slice o0 l0 c0)) Y0):=WO0
 have HC0:Hid (∀W,Below B w0 W→B≤W.heap.size→g<W.heap.size∧∀j,j<11→W.cell? ⟨g,0*11+j,none⟩=(nodeC k0 p0 a0 b0 s0 (.slice o0 l0 c0)).toList[j]?):=C0
 have HW1:Hid (Wq B w0 wb 14 (nodeC k1 p1 a1 b1 s1 (.slice o1 l1 c1)) X1):=W1
 have HC1:Hid (∀W,Below B w0 W→B≤W.heap.size→g<W.heap.size∧∀j,j<11→W.cell? ⟨g,1*11+j,none⟩=(nodeC k1 p1 a1 b1 s1 (.slice o1 l1 c1)).toList[j]?):=C1
 have HL:Hid (NK B w0 f (some ⟨g,22,none⟩) us∧us.length=1):=⟨by have:=hn.drop 2;rw[←hus] at this;simpa using this,hul⟩
 have HZ:Hid (∀a,cz=0→NK B w0 f a us):=fun a hz=>by
  obtain rfl:us=[]:=List.eq_nil_of_length_eq_zero (by omega)
  exact NK.nil
 have hcz:(1:Int)≤(cz:Int):=by omega
 clear e0 y0 z0 W0 WO0 WR0 C0
 clear e1 y1 z1 W1 WO1 WR1 C1 eg1
 clear h hf hr hg hc hkl hcap hn hus hul em
 have F:=q.f1
 have lg:=(HC0.out _ q.wr.bel q.wr.base).1
 have G0:=kid0 (HC0.out _ q.wr.bel q.wr.base).2
 have G1:=kid1 (HC1.out _ q.wr.bel q.wr.base).2
 go_enter Tryz.func68,Tryz.ntmps68
 go_wp2_with (first
  |(go_at_call 47;refine q.put ?_;clear q F lg G0 G1;intro w2 q;have F:=q.f1;have lg:=(HC0.out _ q.wr.bel q.wr.base).1;have G0:=kid0 (HC0.out _ q.wr.bel q.wr.base).2;have G1:=kid1 (HC1.out _ q.wr.bel q.wr.base).2)
  |(go_at_call 56;refine q.when (ss:=[⟨#[101,108,115,101]⟩]) ?_;clear q F lg G0 G1;intro w2 q;have F:=q.f1;have lg:=(HC0.out _ q.wr.bel q.wr.base).1;have G0:=kid0 (HC0.out _ q.wr.bel q.wr.base).2;have G1:=kid1 (HC1.out _ q.wr.bel q.wr.base).2)
  |(go_at_call 46;refine q.go (fun a1 a2=>nodes46 hR (HZ.out _ (by first|rfl|assumption|omega)) HL.out.2 a1 a2) ?_;clear q F lg G0 G1;intro w2 q;have F:=q.f1;have lg:=(HC0.out _ q.wr.bel q.wr.base).1;have G0:=kid0 (HC0.out _ q.wr.bel q.wr.base).2;have G1:=kid1 (HC1.out _ q.wr.bel q.wr.base).2)
  |(go_at_call 46;refine q.go (fun a1 a2=>nodes46 hR HL.out.1 HL.out.2 a1 a2) ?_;clear q F lg G0 G1;intro w2 q;have F:=q.f1;have lg:=(HC0.out _ q.wr.bel q.wr.base).1;have G0:=kid0 (HC0.out _ q.wr.bel q.wr.base).2;have G1:=kid1 (HC1.out _ q.wr.bel q.wr.base).2)
  |(go_at_call 14;refine q.go (fun a1 a2=>HW1.out a1 a2) ?_;clear q F lg G0 G1;intro w2 q;have F:=q.f1;have lg:=(HC0.out _ q.wr.bel q.wr.base).1;have G0:=kid0 (HC0.out _ q.wr.bel q.wr.base).2;have G1:=kid1 (HC1.out _ q.wr.bel q.wr.base).2)
  |(go_at_call 63;refine q.go (fun a1 a2=>HWO0.out a1 a2) ?_;clear q F lg G0 G1;intro w2 q;have F:=q.f1;have lg:=(HC0.out _ q.wr.bel q.wr.base).1;have G0:=kid0 (HC0.out _ q.wr.bel q.wr.base).2;have G1:=kid1 (HC1.out _ q.wr.bel q.wr.base).2))
 all_goals(go_end0;exact q.done (by simp<;>rfl))
set_option maxRecDepth 100000 in
set_option maxHeartbeats 1000000 in
theorem p68_34 (hR:RP B w0 wb f) (hm:Mx B w0) (ht:Tab B w0) (hx:Nw B w0 (f+1) (nodeC 34 pos n m name (.slice ko kl kc)).toList):Wq B w0 wb 68 (nodeC 34 pos n m name (.slice ko kl kc)) (tok (f+1) w0 (nodeC 34 pos n m name (.slice ko kl kc)).toList):=by
 intro w ts0 h hf
 have hcap:=hx.cap
 obtain⟨vs,hkl,hr,hg,htok,hs,hc⟩:=hx.opened
 rw[htok] at hf⊢
 clear htok hx
 have hn:=NK.of hr hg (by unfold kidK frK;omega)
 have:kl≠0:=by
  obtain⟨y,zs,eks,-,-⟩:=hg.ematch rfl
  have:=congrArg List.length eks
  simp at this;omega
 obtain⟨l1,rfl⟩:∃l1,kl=l1+1:=⟨kl - 1,by omega⟩
 obtain⟨c1,rfl⟩:∃c1,kc=c1+1:=⟨kc - 1,by omega⟩
 obtain⟨k0,p0,a0,b0,s0,o0,l0,c0,g,X0,Y0,Z0,e0,y0,z0,rfl,W0,WO0,WR0,C0⟩:=kid_p hR hn hc (i:=0) (by omega)
 obtain⟨us,hus⟩:∃us,us=vs.drop 1:=⟨_,rfl⟩
 have hul:us.length=l1:=by rw[hus,List.length_drop];omega
 have em:(vs.map (kdAt f w0)).drop 1=us.map (kdAt f w0):=by rw[hus,List.map_drop]
 have hb:=hn.row.few
 rw[hkl] at hb
 have e:asm 34 n m (name:ByteArray).data.toList (vs.map (kdAt f w0))=[109,97,116,99,104]::(Y0++(pRow [123] [125] (us.map (kdAt f w0))++[])):=by
  show [109,97,116,99,104]::(pOp (kd (vs.map (kdAt f w0)) 0)++pRow [123] [125] ((vs.map (kdAt f w0)).drop 1))=_;rw[e0,y0,em,List.append_nil]
 rw[e] at hf⊢
 clear e
 have q:=(Sp.start h hf).box (nodeC 34 pos n m name (.slice (some ⟨g,0,none⟩) (l1+1) (c1+1)))
 have HWO0:Hid (Wq B w0 wb 63 (nodeC k0 p0 a0 b0 s0 (.slice o0 l0 c0)) Y0):=WO0
 have HC0:Hid (∀W,Below B w0 W→B≤W.heap.size→g<W.heap.size∧∀j,j<11→W.cell? ⟨g,0*11+j,none⟩=(nodeC k0 p0 a0 b0 s0 (.slice o0 l0 c0)).toList[j]?):=C0
 have HL:Hid (NK B w0 f (some ⟨g,11,none⟩) us∧us.length=l1):=⟨by have:=hn.drop 1;rw[←hus] at this;simpa using this,hul⟩
 have HZ:Hid (∀a,c1=0→NK B w0 f a us):=fun a hz=>by
  obtain rfl:us=[]:=List.eq_nil_of_length_eq_zero (by omega)
  exact NK.nil
 have hbI:(l1:Int)+1≤20000:=by omega
 have hcI:(l1:Int)≤(c1:Int):=by omega
 clear e0 y0 z0 W0 WO0 WR0 C0
 clear h hf hr hg hc hkl hcap hn hus hul em hb
 have F:=q.f1
 have lg:=(HC0.out _ q.wr.bel q.wr.base).1
 have G0:=kid0 (HC0.out _ q.wr.bel q.wr.base).2
 go_enter Tryz.func68,Tryz.ntmps68
 go_wp2_with (first
  |(go_at_call 47;refine q.put ?_;clear q F lg G0;intro w2 q;have F:=q.f1;have lg:=(HC0.out _ q.wr.bel q.wr.base).1;have G0:=kid0 (HC0.out _ q.wr.bel q.wr.base).2)
  |(go_at_call 58;refine q.go (fun a1 a2=>row58 hR ⟨#[123]⟩ ⟨#[125]⟩ (HZ.out _ (by first|rfl|assumption|omega)) HL.out.2 a1 a2) ?_;clear q F lg G0;intro w2 q;have F:=q.f1;have lg:=(HC0.out _ q.wr.bel q.wr.base).1;have G0:=kid0 (HC0.out _ q.wr.bel q.wr.base).2)
  |(go_at_call 58;refine q.go (fun a1 a2=>row58 hR ⟨#[123]⟩ ⟨#[125]⟩ HL.out.1 HL.out.2 a1 a2) ?_;clear q F lg G0;intro w2 q;have F:=q.f1;have lg:=(HC0.out _ q.wr.bel q.wr.base).1;have G0:=kid0 (HC0.out _ q.wr.bel q.wr.base).2)
  |(go_at_call 63;refine q.go (fun a1 a2=>HWO0.out a1 a2) ?_;clear q F lg G0;intro w2 q;have F:=q.f1;have lg:=(HC0.out _ q.wr.bel q.wr.base).1;have G0:=kid0 (HC0.out _ q.wr.bel q.wr.base).2))
 all_goals(go_end0;exact q.done (by simp<;>rfl))
set_option maxRecDepth 100000 in
set_option maxHeartbeats 1000000 in
theorem p91_430 (hR:RP B w0 wb f) (hm:Mx B w0) (ht:Tab B w0) (hnn:n=0) (hx:Nw B w0 (f+1) (nodeC 43 pos n m name (.slice ko kl kc)).toList):Wq B w0 wb 91 (nodeC 43 pos n m name (.slice ko kl kc)) (tok (f+1) w0 (nodeC 43 pos n m name (.slice ko kl kc)).toList):=by
 intro w ts0 h hf
 have hcap:=hx.cap
 obtain⟨vs,hkl,hr,hg,htok,hs,hc⟩:=hx.opened
 rw[htok] at hf⊢
 clear htok hx
 have hn:=NK.of hr hg (by unfold kidK frK;omega)
 obtain rfl:n=0:=hnn
 obtain rfl:kl=0:=by
  have:=(hg.elet rfl).2
  simp[hkl] at this
  omega
 have e:asm 43 0 m (name:ByteArray).data.toList (vs.map (kdAt f w0))=[108,101,116]::(pWhen (m==1) [[109,117,116]]++(tl name::([]))):=by
  rfl
 rw[e] at hf⊢
 clear e
 have q:=(Sp.start h hf).box (nodeC 43 pos 0 m name (.slice ko 0 kc))
 clear h hf hr hg hc hkl hcap hn
 have F:=q.f1
 go_enter Tryz.func91,Tryz.ntmps91
 go_wp2_with (first
  |(go_at_call 47;refine q.put ?_;clear q F;intro w2 q;have F:=q.f1)
  |(go_at_call 56;refine q.when (ss:=[⟨#[109,117,116]⟩]) ?_;clear q F;intro w2 q;have F:=q.f1))
 all_goals(go_end0;exact q.done (by simp<;>rfl))
set_option maxRecDepth 100000 in
set_option maxHeartbeats 1000000 in
theorem p91_431 (hR:RP B w0 wb f) (hm:Mx B w0) (ht:Tab B w0) (hnn:n=1) (hx:Nw B w0 (f+1) (nodeC 43 pos n m name (.slice ko kl kc)).toList):Wq B w0 wb 91 (nodeC 43 pos n m name (.slice ko kl kc)) (tok (f+1) w0 (nodeC 43 pos n m name (.slice ko kl kc)).toList):=by
 intro w ts0 h hf
 have hcap:=hx.cap
 obtain⟨vs,hkl,hr,hg,htok,hs,hc⟩:=hx.opened
 rw[htok] at hf⊢
 clear htok hx
 have hn:=NK.of hr hg (by unfold kidK frK;omega)
 obtain rfl:n=1:=hnn
 obtain rfl:kl=1:=by
  have:=(hg.elet rfl).2
  simp[hkl] at this
  omega
 obtain⟨cz,rfl⟩:∃cz,kc=1+cz:=⟨kc - 1,by omega⟩
 obtain⟨k0,p0,a0,b0,s0,o0,l0,c0,g,X0,Y0,Z0,e0,y0,z0,rfl,W0,WO0,WR0,C0⟩:=kid_p hR hn hc (i:=0) (by omega)
 have e:asm 43 1 m (name:ByteArray).data.toList (vs.map (kdAt f w0))=[108,101,116]::(pWhen (m==1) [[109,117,116]]++(tl name::([58]::(X0++[])))):=by
  show [108,101,116]::(pWhen (m==1) [[109,117,116]]++(tl name::(pWhen ((1:Int)%2==1) ([58]::(kd (vs.map (kdAt f w0)) 0).t)++pWhen (decide (2≤(1:Int))) ([61]::(kd (vs.map (kdAt f w0)) ((1:Int)%2).toNat).t))))=_;rw[e0,List.append_nil];show _=_;simp[pWhen]
 rw[e] at hf⊢
 clear e
 have q:=(Sp.start h hf).box (nodeC 43 pos 1 m name (.slice (some ⟨g,0,none⟩) 1 (1+cz)))
 have HW0:Hid (Wq B w0 wb 14 (nodeC k0 p0 a0 b0 s0 (.slice o0 l0 c0)) X0):=W0
 have HC0:Hid (∀W,Below B w0 W→B≤W.heap.size→g<W.heap.size∧∀j,j<11→W.cell? ⟨g,0*11+j,none⟩=(nodeC k0 p0 a0 b0 s0 (.slice o0 l0 c0)).toList[j]?):=C0
 clear e0 y0 z0 W0 WO0 WR0 C0
 clear h hf hr hg hc hkl hcap hn
 have F:=q.f1
 have lg:=(HC0.out _ q.wr.bel q.wr.base).1
 have G0:=kid0 (HC0.out _ q.wr.bel q.wr.base).2
 go_enter Tryz.func91,Tryz.ntmps91
 go_wp2_with (first
  |(go_at_call 47;refine q.put ?_;clear q F lg G0;intro w2 q;have F:=q.f1;have lg:=(HC0.out _ q.wr.bel q.wr.base).1;have G0:=kid0 (HC0.out _ q.wr.bel q.wr.base).2)
  |(go_at_call 56;refine q.when (ss:=[⟨#[109,117,116]⟩]) ?_;clear q F lg G0;intro w2 q;have F:=q.f1;have lg:=(HC0.out _ q.wr.bel q.wr.base).1;have G0:=kid0 (HC0.out _ q.wr.bel q.wr.base).2)
  |(go_at_call 14;refine q.go (fun a1 a2=>HW0.out a1 a2) ?_;clear q F lg G0;intro w2 q;have F:=q.f1;have lg:=(HC0.out _ q.wr.bel q.wr.base).1;have G0:=kid0 (HC0.out _ q.wr.bel q.wr.base).2))
 all_goals(go_end0;exact q.done (by simp<;>rfl))
set_option maxRecDepth 100000 in
set_option maxHeartbeats 1000000 in
theorem p91_432 (hR:RP B w0 wb f) (hm:Mx B w0) (ht:Tab B w0) (hnn:n=2) (hx:Nw B w0 (f+1) (nodeC 43 pos n m name (.slice ko kl kc)).toList):Wq B w0 wb 91 (nodeC 43 pos n m name (.slice ko kl kc)) (tok (f+1) w0 (nodeC 43 pos n m name (.slice ko kl kc)).toList):=by
 intro w ts0 h hf
 have hcap:=hx.cap
 obtain⟨vs,hkl,hr,hg,htok,hs,hc⟩:=hx.opened
 rw[htok] at hf⊢
 clear htok hx
 have hn:=NK.of hr hg (by unfold kidK frK;omega)
 obtain rfl:n=2:=hnn
 obtain rfl:kl=1:=by
  have:=(hg.elet rfl).2
  simp[hkl] at this
  omega
 obtain⟨k0,p0,a0,b0,s0,o0,l0,c0,g,X0,Y0,Z0,e0,y0,z0,rfl,W0,WO0,WR0,C0⟩:=kid_p hR hn hc (i:=0) (by omega)
 have e:asm 43 2 m (name:ByteArray).data.toList (vs.map (kdAt f w0))=[108,101,116]::(pWhen (m==1) [[109,117,116]]++(tl name::([61]::(X0++[])))):=by
  show [108,101,116]::(pWhen (m==1) [[109,117,116]]++(tl name::(pWhen ((2:Int)%2==1) ([58]::(kd (vs.map (kdAt f w0)) 0).t)++pWhen (decide (2≤(2:Int))) ([61]::(kd (vs.map (kdAt f w0)) ((2:Int)%2).toNat).t))))=_;rw[show((2:Int)%2).toNat=0 from rfl,e0,List.append_nil];rfl
 rw[e] at hf⊢
 clear e
 have q:=(Sp.start h hf).box (nodeC 43 pos 2 m name (.slice (some ⟨g,0,none⟩) 1 kc))
 have HW0:Hid (Wq B w0 wb 14 (nodeC k0 p0 a0 b0 s0 (.slice o0 l0 c0)) X0):=W0
 have HC0:Hid (∀W,Below B w0 W→B≤W.heap.size→g<W.heap.size∧∀j,j<11→W.cell? ⟨g,0*11+j,none⟩=(nodeC k0 p0 a0 b0 s0 (.slice o0 l0 c0)).toList[j]?):=C0
 clear e0 y0 z0 W0 WO0 WR0 C0
 clear h hf hr hg hc hkl hcap hn
 have F:=q.f1
 have lg:=(HC0.out _ q.wr.bel q.wr.base).1
 have G0:=kid0 (HC0.out _ q.wr.bel q.wr.base).2
 go_enter Tryz.func91,Tryz.ntmps91
 go_wp2_with (first
  |(go_at_call 47;refine q.put ?_;clear q F lg G0;intro w2 q;have F:=q.f1;have lg:=(HC0.out _ q.wr.bel q.wr.base).1;have G0:=kid0 (HC0.out _ q.wr.bel q.wr.base).2)
  |(go_at_call 56;refine q.when (ss:=[⟨#[109,117,116]⟩]) ?_;clear q F lg G0;intro w2 q;have F:=q.f1;have lg:=(HC0.out _ q.wr.bel q.wr.base).1;have G0:=kid0 (HC0.out _ q.wr.bel q.wr.base).2)
  |(go_at_call 14;refine q.go (fun a1 a2=>HW0.out a1 a2) ?_;clear q F lg G0;intro w2 q;have F:=q.f1;have lg:=(HC0.out _ q.wr.bel q.wr.base).1;have G0:=kid0 (HC0.out _ q.wr.bel q.wr.base).2))
 all_goals(go_end0;exact q.done (by simp<;>rfl))
set_option maxRecDepth 100000 in
set_option maxHeartbeats 1000000 in
theorem p91_433 (hR:RP B w0 wb f) (hm:Mx B w0) (ht:Tab B w0) (hnn:n=3) (hx:Nw B w0 (f+1) (nodeC 43 pos n m name (.slice ko kl kc)).toList):Wq B w0 wb 91 (nodeC 43 pos n m name (.slice ko kl kc)) (tok (f+1) w0 (nodeC 43 pos n m name (.slice ko kl kc)).toList):=by
 intro w ts0 h hf
 have hcap:=hx.cap
 obtain⟨vs,hkl,hr,hg,htok,hs,hc⟩:=hx.opened
 rw[htok] at hf⊢
 clear htok hx
 have hn:=NK.of hr hg (by unfold kidK frK;omega)
 obtain rfl:n=3:=hnn
 obtain rfl:kl=2:=by
  have:=(hg.elet rfl).2
  simp[hkl] at this
  omega
 obtain⟨cz,rfl⟩:∃cz,kc=2+cz:=⟨kc - 2,by omega⟩
 obtain⟨k0,p0,a0,b0,s0,o0,l0,c0,g,X0,Y0,Z0,e0,y0,z0,rfl,W0,WO0,WR0,C0⟩:=kid_p hR hn hc (i:=0) (by omega)
 obtain⟨k1,p1,a1,b1,s1,o1,l1,c1,g1,X1,Y1,Z1,e1,y1,z1,eg1,W1,WO1,WR1,C1⟩:=kid_p hR hn hc (i:=1) (by omega)
 obtain rfl:g=g1:=by simpa using eg1
 have e:asm 43 3 m (name:ByteArray).data.toList (vs.map (kdAt f w0))=[108,101,116]::(pWhen (m==1) [[109,117,116]]++(tl name::([58]::(X0++([61]::(X1++[])))))):=by
  show [108,101,116]::(pWhen (m==1) [[109,117,116]]++(tl name::(pWhen ((3:Int)%2==1) ([58]::(kd (vs.map (kdAt f w0)) 0).t)++pWhen (decide (2≤(3:Int))) ([61]::(kd (vs.map (kdAt f w0)) ((3:Int)%2).toNat).t))))=_;rw[show((3:Int)%2).toNat=1 from rfl,e0,e1,List.append_nil];simp[pWhen]
 rw[e] at hf⊢
 clear e
 have q:=(Sp.start h hf).box (nodeC 43 pos 3 m name (.slice (some ⟨g,0,none⟩) 2 (2+cz)))
 have HW0:Hid (Wq B w0 wb 14 (nodeC k0 p0 a0 b0 s0 (.slice o0 l0 c0)) X0):=W0
 have HC0:Hid (∀W,Below B w0 W→B≤W.heap.size→g<W.heap.size∧∀j,j<11→W.cell? ⟨g,0*11+j,none⟩=(nodeC k0 p0 a0 b0 s0 (.slice o0 l0 c0)).toList[j]?):=C0
 have HW1:Hid (Wq B w0 wb 14 (nodeC k1 p1 a1 b1 s1 (.slice o1 l1 c1)) X1):=W1
 have HC1:Hid (∀W,Below B w0 W→B≤W.heap.size→g<W.heap.size∧∀j,j<11→W.cell? ⟨g,1*11+j,none⟩=(nodeC k1 p1 a1 b1 s1 (.slice o1 l1 c1)).toList[j]?):=C1
 clear e0 y0 z0 W0 WO0 WR0 C0
 clear e1 y1 z1 W1 WO1 WR1 C1 eg1
 clear h hf hr hg hc hkl hcap hn
 have F:=q.f1
 have lg:=(HC0.out _ q.wr.bel q.wr.base).1
 have G0:=kid0 (HC0.out _ q.wr.bel q.wr.base).2
 have G1:=kid1 (HC1.out _ q.wr.bel q.wr.base).2
 go_enter Tryz.func91,Tryz.ntmps91
 go_wp2_with (first
  |(go_at_call 47;refine q.put ?_;clear q F lg G0 G1;intro w2 q;have F:=q.f1;have lg:=(HC0.out _ q.wr.bel q.wr.base).1;have G0:=kid0 (HC0.out _ q.wr.bel q.wr.base).2;have G1:=kid1 (HC1.out _ q.wr.bel q.wr.base).2)
  |(go_at_call 56;refine q.when (ss:=[⟨#[109,117,116]⟩]) ?_;clear q F lg G0 G1;intro w2 q;have F:=q.f1;have lg:=(HC0.out _ q.wr.bel q.wr.base).1;have G0:=kid0 (HC0.out _ q.wr.bel q.wr.base).2;have G1:=kid1 (HC1.out _ q.wr.bel q.wr.base).2)
  |(go_at_call 14;refine q.go (fun a1 a2=>HW1.out a1 a2) ?_;clear q F lg G0 G1;intro w2 q;have F:=q.f1;have lg:=(HC0.out _ q.wr.bel q.wr.base).1;have G0:=kid0 (HC0.out _ q.wr.bel q.wr.base).2;have G1:=kid1 (HC1.out _ q.wr.bel q.wr.base).2)
  |(go_at_call 14;refine q.go (fun a1 a2=>HW0.out a1 a2) ?_;clear q F lg G0 G1;intro w2 q;have F:=q.f1;have lg:=(HC0.out _ q.wr.bel q.wr.base).1;have G0:=kid0 (HC0.out _ q.wr.bel q.wr.base).2;have G1:=kid1 (HC1.out _ q.wr.bel q.wr.base).2))
 all_goals(go_end0;exact q.done (by simp<;>rfl))
set_option maxRecDepth 100000 in
set_option maxHeartbeats 2000000 in
theorem block90 (hR:RP B w0 wb f) {ks:List (List Value)} (r:NK B w0 f ko ks) (h:Pw B w0 w wb ts0) (hf:(ts0++([123]::(pBlk n (ks.map (kdAt f w0))++[[125]]))).length≤1099511627776):Calls Tryz.prog 90 #[.pointer (some ⟨wb,0,none⟩),.agg (nodeC 42 pos n m name (.slice ko ks.length kc))] w (PP B w0 w wb ts0 ([123]::(pBlk n (ks.map (kdAt f w0))++[[125]]))):=by
 have H:Hid (NK B w0 f ko ks):=r
 have q:=(Sp.start h hf).box (nodeC 42 pos n m name (.slice ko ks.length kc))
 have hfew:=r.row.few
 have F:=q.f1
 obtain⟨nb,hnb⟩:∃nb,nb=w.heap.size:=⟨_,rfl⟩
 clear r h hf
 go_enter Tryz.func90,Tryz.ntmps90
 go_wp2_with (go_at_call 47;refine q.put ?_;clear q F;intro w1 q;have F:=q.f1)
 rw[←hnb] at q F⊢
 clear hnb
 go_loopg [12] ks.length (fun gg u wr=>∃(idx:Nat) (ts:List (List UInt8)),gg=ks.length - idx∧u=.int .i64 idx∧idx≤ks.length∧Hid (ts++pBlk n ((ks.map (kdAt f w0)).drop idx)=[123]::pBlk n (ks.map (kdAt f w0)))∧Hid (Sp B w0 w wb ts0 ts (pBlk n ((ks.map (kdAt f w0)).drop idx)++[[125]]) wr [(nb,(nodeC 42 pos n m name (.slice ko ks.length kc)))]))
 case atStart=>exact⟨0,[]++[[123]],rfl,rfl,Nat.zero_le _,(by show _=_;simp),q⟩
 case round=>
  clear q F
  obtain⟨idx,ts,hgk,rfl,hidx,HT,Q⟩:=hrel
  have HG:Hid (gk=ks.length - idx):=hgk
  clear hgk
  have F:=Q.out.f1
  by_cases hlt:idx<ks.length
  ·have hltI:(idx:Int)<(ks.length:Int):=by omega
   obtain⟨x,hx⟩:∃x,ks[idx]? =some x:=⟨_,List.getElem?_eq_getElem hlt⟩
   obtain⟨g,o,rfl,hgB,hcell⟩:=H.out.row.cell idx x hx
   have hmem:=List.mem_of_getElem? hx
   obtain⟨kind2,pos2,n2,m2,name2,ko2,kl2,kc2,rfl,-,-⟩:=(H.out.row.all x hmem).fields
   have HX:Hid (Nw B w0 f (nodeC kind2 pos2 n2 m2 name2 (.slice ko2 kl2 kc2)).toList∧okL (labOf (nodeC kind2 pos2 n2 m2 name2 (.slice ko2 kl2 kc2)).toList)∧(ks.map (kdAt f w0))[idx]? =some (kdAt f w0 (nodeC kind2 pos2 n2 m2 name2 (.slice ko2 kl2 kc2)).toList)):=⟨H.out.row.all _ hmem,H.out.ok _ hmem,by rw[List.getElem?_map,hx];rfl⟩
   have lift:∀j,j<11→wr.cell? ⟨g,o+idx*11+j,none⟩=(nodeC kind2 pos2 n2 m2 name2 (.slice ko2 kl2 kc2)).toList[j]? :=fun j hj=>(Q.out.wr.bel.cell (p:=⟨g,o+idx*11+j,none⟩) hgB).trans (hcell j hj)
   have lg:g<wr.heap.size:=Nat.lt_of_lt_of_le hgB Q.out.wr.base
   have e0:=lift 0 (by decide)
   have e1:=lift 1 (by decide)
   have e2:=lift 2 (by decide)
   have e3:=lift 3 (by decide)
   have e4:=lift 4 (by decide)
   have e5:=lift 5 (by decide)
   have e6:=lift 6 (by decide)
   have e7:=lift 7 (by decide)
   have e8:=lift 8 (by decide)
   have e9:=lift 9 (by decide)
   have e10:=lift 10 (by decide)
   simp only[Nat.add_zero] at e0
   clear lift hcell hx hmem
   have st:=pBlk_step (n:=n) HX.out.2.2
   rw[List.length_map] at st
   obtain⟨d,hd⟩:∃d,d=(n==0||decide (idx+1<ks.length)):=⟨_,rfl⟩
   rw[←hd] at st
   have st2:pBlk n ((ks.map (kdAt f w0)).drop idx)++[[125]]=(kdAt f w0 (nodeC kind2 pos2 n2 m2 name2 (.slice ko2 kl2 kc2)).toList).t++(pWhen d [[59]]++(pBlk n ((ks.map (kdAt f w0)).drop (idx+1))++[[125]])):=by rw[st];simp
   have HE:Hid (ts++(kdAt f w0 (nodeC kind2 pos2 n2 m2 name2 (.slice ko2 kl2 kc2)).toList).t++pWhen d [[59]]++pBlk n ((ks.map (kdAt f w0)).drop (idx+1))=[123]::pBlk n (ks.map (kdAt f w0))):=by show _=_;rw[←HT.out,st];simp
   have q:=((Q.out.as st2).box (nodeC kind2 pos2 n2 m2 name2 (.slice ko2 kl2 kc2)))
   clear st st2 F
   have F:=q.f2
   by_cases hn0:n=0
   ·subst hn0
    obtain rfl:d=true:=by rw[hd];rfl
    clear hd
    go_wp2_with (first|(go_at_call 56;refine q.when (ss:=[⟨#[59]⟩]) ?_;clear q F;intro w3 q;have F:=q.f2)|(go_at_call 14;refine q.go (fun a1 a2=>hR HX.out.1 HX.out.2.1 a1 a2) ?_;clear q F;intro w2 q;have F:=q.f2))
    go_roundg (ks.length - (idx+1))
    case measure=>rw[HG.out];omega
    case rel=>exact⟨idx+1,_,rfl,by go_num,hlt,HE.out,q.pop⟩
   ·have hn1:(n==0)=false:=by simpa using hn0
    rw[hn1,Bool.false_or] at hd
    clear hn0
    obtain rfl:d=decide ((idx:Int)<(ks.length:Int) - 1):=by rw[hd];exact decide_eq_decide.2 (by omega)
    clear hd
    go_wp2_with (first|(go_at_call 56;refine q.when (ss:=[⟨#[59]⟩]) ?_;clear q F;intro w3 q;have F:=q.f2)|(go_at_call 14;refine q.go (fun a1 a2=>hR HX.out.1 HX.out.2.1 a1 a2) ?_;clear q F;intro w2 q;have F:=q.f2))
    go_roundg (ks.length - (idx+1))
    case measure=>rw[HG.out];omega
    case rel=>exact⟨idx+1,_,rfl,by go_num,hlt,HE.out,q.pop⟩
  ·have hltI:¬(idx:Int)<(ks.length:Int):=by omega
   obtain rfl:idx=ks.length:=by omega
   have e:pBlk n ((ks.map (kdAt f w0)).drop ks.length)=[]:=by rw[List.drop_of_length_le (by rw[List.length_map];exact Nat.le_refl _)];rfl
   have q:=Q.out.as (rest':=[125]::[]) (by rw[e];rfl)
   have HE:Hid (ts=[123]::pBlk n (ks.map (kdAt f w0))):=by show _=_;rw[←HT.out,e,List.append_nil]
   clear e
   go_wp2_with (go_at_call 47;refine q.put ?_;clear q;intro w3 q)
   go_end0
   exact q.done (by rw[HE.out];rfl)
theorem p90_42 (hR:RP B w0 wb f) (hx:Nw B w0 (f+1) (nodeC 42 pos n m name (.slice ko kl kc)).toList):Wq B w0 wb 90 (nodeC 42 pos n m name (.slice ko kl kc)) (tok (f+1) w0 (nodeC 42 pos n m name (.slice ko kl kc)).toList):=by
 intro w ts0 h hf
 obtain⟨vs,hkl,hr,hg,htok,hs,hc⟩:=hx.opened
 rw[htok] at hf⊢
 subst hkl
 exact block90 hR (NK.of hr hg (by unfold kidK frK;omega)) h hf
set_option maxRecDepth 100000 in
set_option maxHeartbeats 1000000 in
theorem d26_33 {T:List (List UInt8)} (HP:Wq B w0 wb 68 (nodeC 33 pos n m name (.slice ko kl kc)) T):Wq B w0 wb 26 (nodeC 33 pos n m name (.slice ko kl kc)) T:=by
 intro w ts0 h hf
 have q:=((Sp.start h hf).as (rest':=T++[]) (by simp)).box (nodeC 33 pos n m name (.slice ko kl kc))
 have H:Hid (Wq B w0 wb 68 (nodeC 33 pos n m name (.slice ko kl kc)) T):=HP
 clear h hf HP
 have F:=q.f1
 go_enter Tryz.func26,Tryz.ntmps26
 go_wp2_with (go_at_call 68;refine q.go (fun a1 a2=>H.out a1 a2) ?_;clear q F;intro w2 q;have F:=q.f1)
 go_end0
 exact q.done (by simp)
set_option maxRecDepth 100000 in
set_option maxHeartbeats 1000000 in
theorem d26_34 {T:List (List UInt8)} (HP:Wq B w0 wb 68 (nodeC 34 pos n m name (.slice ko kl kc)) T):Wq B w0 wb 26 (nodeC 34 pos n m name (.slice ko kl kc)) T:=by
 intro w ts0 h hf
 have q:=((Sp.start h hf).as (rest':=T++[]) (by simp)).box (nodeC 34 pos n m name (.slice ko kl kc))
 have H:Hid (Wq B w0 wb 68 (nodeC 34 pos n m name (.slice ko kl kc)) T):=HP
 clear h hf HP
 have F:=q.f1
 go_enter Tryz.func26,Tryz.ntmps26
 go_wp2_with (go_at_call 68;refine q.go (fun a1 a2=>H.out a1 a2) ?_;clear q F;intro w2 q;have F:=q.f1)
 go_end0
 exact q.done (by simp)
set_option maxRecDepth 100000 in
set_option maxHeartbeats 1000000 in
theorem d26_35 {T:List (List UInt8)} (HP:Wq B w0 wb 68 (nodeC 35 pos n m name (.slice ko kl kc)) T):Wq B w0 wb 26 (nodeC 35 pos n m name (.slice ko kl kc)) T:=by
 intro w ts0 h hf
 have q:=((Sp.start h hf).as (rest':=T++[]) (by simp)).box (nodeC 35 pos n m name (.slice ko kl kc))
 have H:Hid (Wq B w0 wb 68 (nodeC 35 pos n m name (.slice ko kl kc)) T):=HP
 clear h hf HP
 have F:=q.f1
 go_enter Tryz.func26,Tryz.ntmps26
 go_wp2_with (go_at_call 68;refine q.go (fun a1 a2=>H.out a1 a2) ?_;clear q F;intro w2 q;have F:=q.f1)
 go_end0
 exact q.done (by simp)
set_option maxRecDepth 100000 in
set_option maxHeartbeats 1000000 in
theorem d26_36 {T:List (List UInt8)} (HP:Wq B w0 wb 68 (nodeC 36 pos n m name (.slice ko kl kc)) T):Wq B w0 wb 26 (nodeC 36 pos n m name (.slice ko kl kc)) T:=by
 intro w ts0 h hf
 have q:=((Sp.start h hf).as (rest':=T++[]) (by simp)).box (nodeC 36 pos n m name (.slice ko kl kc))
 have H:Hid (Wq B w0 wb 68 (nodeC 36 pos n m name (.slice ko kl kc)) T):=HP
 clear h hf HP
 have F:=q.f1
 go_enter Tryz.func26,Tryz.ntmps26
 go_wp2_with (go_at_call 68;refine q.go (fun a1 a2=>H.out a1 a2) ?_;clear q F;intro w2 q;have F:=q.f1)
 go_end0
 exact q.done (by simp)
set_option maxRecDepth 100000 in
set_option maxHeartbeats 1000000 in
theorem d26_37 {T:List (List UInt8)} (HP:Wq B w0 wb 68 (nodeC 37 pos n m name (.slice ko kl kc)) T):Wq B w0 wb 26 (nodeC 37 pos n m name (.slice ko kl kc)) T:=by
 intro w ts0 h hf
 have q:=((Sp.start h hf).as (rest':=T++[]) (by simp)).box (nodeC 37 pos n m name (.slice ko kl kc))
 have H:Hid (Wq B w0 wb 68 (nodeC 37 pos n m name (.slice ko kl kc)) T):=HP
 clear h hf HP
 have F:=q.f1
 go_enter Tryz.func26,Tryz.ntmps26
 go_wp2_with (go_at_call 68;refine q.go (fun a1 a2=>H.out a1 a2) ?_;clear q F;intro w2 q;have F:=q.f1)
 go_end0
 exact q.done (by simp)
set_option maxRecDepth 100000 in
set_option maxHeartbeats 1000000 in
theorem d26_38 {T:List (List UInt8)} (HP:Wq B w0 wb 68 (nodeC 38 pos n m name (.slice ko kl kc)) T):Wq B w0 wb 26 (nodeC 38 pos n m name (.slice ko kl kc)) T:=by
 intro w ts0 h hf
 have q:=((Sp.start h hf).as (rest':=T++[]) (by simp)).box (nodeC 38 pos n m name (.slice ko kl kc))
 have H:Hid (Wq B w0 wb 68 (nodeC 38 pos n m name (.slice ko kl kc)) T):=HP
 clear h hf HP
 have F:=q.f1
 go_enter Tryz.func26,Tryz.ntmps26
 go_wp2_with (go_at_call 68;refine q.go (fun a1 a2=>H.out a1 a2) ?_;clear q F;intro w2 q;have F:=q.f1)
 go_end0
 exact q.done (by simp)
set_option maxRecDepth 100000 in
set_option maxHeartbeats 1000000 in
theorem d26_39 {T:List (List UInt8)} (HP:Wq B w0 wb 68 (nodeC 39 pos n m name (.slice ko kl kc)) T):Wq B w0 wb 26 (nodeC 39 pos n m name (.slice ko kl kc)) T:=by
 intro w ts0 h hf
 have q:=((Sp.start h hf).as (rest':=T++[]) (by simp)).box (nodeC 39 pos n m name (.slice ko kl kc))
 have H:Hid (Wq B w0 wb 68 (nodeC 39 pos n m name (.slice ko kl kc)) T):=HP
 clear h hf HP
 have F:=q.f1
 go_enter Tryz.func26,Tryz.ntmps26
 go_wp2_with (go_at_call 68;refine q.go (fun a1 a2=>H.out a1 a2) ?_;clear q F;intro w2 q;have F:=q.f1)
 go_end0
 exact q.done (by simp)
set_option maxRecDepth 100000 in
set_option maxHeartbeats 1000000 in
theorem d26_40 {T:List (List UInt8)} (HP:Wq B w0 wb 68 (nodeC 40 pos n m name (.slice ko kl kc)) T):Wq B w0 wb 26 (nodeC 40 pos n m name (.slice ko kl kc)) T:=by
 intro w ts0 h hf
 have q:=((Sp.start h hf).as (rest':=T++[]) (by simp)).box (nodeC 40 pos n m name (.slice ko kl kc))
 have H:Hid (Wq B w0 wb 68 (nodeC 40 pos n m name (.slice ko kl kc)) T):=HP
 clear h hf HP
 have F:=q.f1
 go_enter Tryz.func26,Tryz.ntmps26
 go_wp2_with (go_at_call 68;refine q.go (fun a1 a2=>H.out a1 a2) ?_;clear q F;intro w2 q;have F:=q.f1)
 go_end0
 exact q.done (by simp)
set_option maxRecDepth 100000 in
set_option maxHeartbeats 1000000 in
theorem d26_41 {T:List (List UInt8)} (HP:Wq B w0 wb 68 (nodeC 41 pos n m name (.slice ko kl kc)) T):Wq B w0 wb 26 (nodeC 41 pos n m name (.slice ko kl kc)) T:=by
 intro w ts0 h hf
 have q:=((Sp.start h hf).as (rest':=T++[]) (by simp)).box (nodeC 41 pos n m name (.slice ko kl kc))
 have H:Hid (Wq B w0 wb 68 (nodeC 41 pos n m name (.slice ko kl kc)) T):=HP
 clear h hf HP
 have F:=q.f1
 go_enter Tryz.func26,Tryz.ntmps26
 go_wp2_with (go_at_call 68;refine q.go (fun a1 a2=>H.out a1 a2) ?_;clear q F;intro w2 q;have F:=q.f1)
 go_end0
 exact q.done (by simp)
set_option maxRecDepth 100000 in
set_option maxHeartbeats 1000000 in
theorem d26_42 {T:List (List UInt8)} (HP:Wq B w0 wb 68 (nodeC 42 pos n m name (.slice ko kl kc)) T):Wq B w0 wb 26 (nodeC 42 pos n m name (.slice ko kl kc)) T:=by
 intro w ts0 h hf
 have q:=((Sp.start h hf).as (rest':=T++[]) (by simp)).box (nodeC 42 pos n m name (.slice ko kl kc))
 have H:Hid (Wq B w0 wb 68 (nodeC 42 pos n m name (.slice ko kl kc)) T):=HP
 clear h hf HP
 have F:=q.f1
 go_enter Tryz.func26,Tryz.ntmps26
 go_wp2_with (go_at_call 68;refine q.go (fun a1 a2=>H.out a1 a2) ?_;clear q F;intro w2 q;have F:=q.f1)
 go_end0
 exact q.done (by simp)
set_option maxRecDepth 100000 in
set_option maxHeartbeats 1000000 in
theorem d26_43 {T:List (List UInt8)} (HP:Wq B w0 wb 68 (nodeC 43 pos n m name (.slice ko kl kc)) T):Wq B w0 wb 26 (nodeC 43 pos n m name (.slice ko kl kc)) T:=by
 intro w ts0 h hf
 have q:=((Sp.start h hf).as (rest':=T++[]) (by simp)).box (nodeC 43 pos n m name (.slice ko kl kc))
 have H:Hid (Wq B w0 wb 68 (nodeC 43 pos n m name (.slice ko kl kc)) T):=HP
 clear h hf HP
 have F:=q.f1
 go_enter Tryz.func26,Tryz.ntmps26
 go_wp2_with (go_at_call 68;refine q.go (fun a1 a2=>H.out a1 a2) ?_;clear q F;intro w2 q;have F:=q.f1)
 go_end0
 exact q.done (by simp)
set_option maxRecDepth 100000 in
set_option maxHeartbeats 1000000 in
theorem d68_42 {T:List (List UInt8)} (HP:Wq B w0 wb 90 (nodeC 42 pos n m name (.slice ko kl kc)) T):Wq B w0 wb 68 (nodeC 42 pos n m name (.slice ko kl kc)) T:=by
 intro w ts0 h hf
 have q:=((Sp.start h hf).as (rest':=T++[]) (by simp)).box (nodeC 42 pos n m name (.slice ko kl kc))
 have H:Hid (Wq B w0 wb 90 (nodeC 42 pos n m name (.slice ko kl kc)) T):=HP
 clear h hf HP
 have F:=q.f1
 go_enter Tryz.func68,Tryz.ntmps68
 go_wp2_with (go_at_call 90;refine q.go (fun a1 a2=>H.out a1 a2) ?_;clear q F;intro w2 q;have F:=q.f1)
 go_end0
 exact q.done (by simp)
set_option maxRecDepth 100000 in
set_option maxHeartbeats 1000000 in
theorem d68_43 {T:List (List UInt8)} (HP:Wq B w0 wb 91 (nodeC 43 pos n m name (.slice ko kl kc)) T):Wq B w0 wb 68 (nodeC 43 pos n m name (.slice ko kl kc)) T:=by
 intro w ts0 h hf
 have q:=((Sp.start h hf).as (rest':=T++[]) (by simp)).box (nodeC 43 pos n m name (.slice ko kl kc))
 have H:Hid (Wq B w0 wb 91 (nodeC 43 pos n m name (.slice ko kl kc)) T):=HP
 clear h hf HP
 have F:=q.f1
 go_enter Tryz.func68,Tryz.ntmps68
 go_wp2_with (go_at_call 91;refine q.go (fun a1 a2=>H.out a1 a2) ?_;clear q F;intro w2 q;have F:=q.f1)
 go_end0
 exact q.done (by simp)
end
end Go.Proofs.YtagdihffmjopaaaGreatDoor
