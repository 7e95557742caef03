/- The document's writer: types, patterns. -/
import Derived.Test.YtagdihffmjopaaaGreatDoorPta
namespace Go.Proofs.YtagdihffmjopaaaGreatDoor
set_option linter.all false
open Go.RowKit
section
variable{B:Nat} {w0 w:World} {wb f:Nat} {bs:List UInt8} {kind pos n m:Int} {name:ByteArray} {ko:Option Addr} {kl kc:Nat}
set_option maxRecDepth 100000 in
set_option maxHeartbeats 2000000 in
theorem e76_13 (hRs:∀g,g≤f→RN B w0 wb g) (ht:Tab B w0) (hx:Nw B w0 (f+1) (nodeC 13 pos n m name (.slice ko kl kc)).toList):Wc B w0 wb 76 (nodeC 13 pos n m name (.slice ko kl kc)) (tok (f+1) w0 (nodeC 13 pos n m name (.slice ko kl kc)).toList):=by
 intro w bs h hne hf
 have hR:RN B w0 wb f:=@hRs f (Nat.le_refl f)
 have hcap:=hx.cap
 obtain⟨vs,hkl,hr,hg,htok,hs,hc⟩:=hx.opened
 rw[htok] at hf⊢
 clear htok hx
 have e:asm 13 n m (name:ByteArray).data.toList (vs.map (kdAt f w0))=[105,110,116]::[]:=by
  rfl
 rw[e] at hf⊢
 clear e
 have q:=(Sw.start h hne hf).box (nodeC 13 pos n m name (.slice ko kl kc))
 clear h hne hf hr hg hc hkl hcap hRs
 have F:=q.f1
 go_enter Tryz.func76,Tryz.ntmps76
 go_wp2_with (first
  |(go_at_call 33;refine q.put ?_;clear q F;intro w2 q;have F:=q.f1))
 all_goals(go_end0;exact q.done (rfl))
set_option maxRecDepth 100000 in
set_option maxHeartbeats 2000000 in
theorem e76_14 (hRs:∀g,g≤f→RN B w0 wb g) (ht:Tab B w0) (hx:Nw B w0 (f+1) (nodeC 14 pos n m name (.slice ko kl kc)).toList):Wc B w0 wb 76 (nodeC 14 pos n m name (.slice ko kl kc)) (tok (f+1) w0 (nodeC 14 pos n m name (.slice ko kl kc)).toList):=by
 intro w bs h hne hf
 have hR:RN B w0 wb f:=@hRs f (Nat.le_refl f)
 have hcap:=hx.cap
 obtain⟨vs,hkl,hr,hg,htok,hs,hc⟩:=hx.opened
 rw[htok] at hf⊢
 clear htok hx
 have e:asm 14 n m (name:ByteArray).data.toList (vs.map (kdAt f w0))=[98,111,111,108]::[]:=by
  rfl
 rw[e] at hf⊢
 clear e
 have q:=(Sw.start h hne hf).box (nodeC 14 pos n m name (.slice ko kl kc))
 clear h hne hf hr hg hc hkl hcap hRs
 have F:=q.f1
 go_enter Tryz.func76,Tryz.ntmps76
 go_wp2_with (first
  |(go_at_call 33;refine q.put ?_;clear q F;intro w2 q;have F:=q.f1))
 all_goals(go_end0;exact q.done (rfl))
set_option maxRecDepth 100000 in
set_option maxHeartbeats 2000000 in
theorem e76_49 (hRs:∀g,g≤f→RN B w0 wb g) (ht:Tab B w0) (hx:Nw B w0 (f+1) (nodeC 49 pos n m name (.slice ko kl kc)).toList):Wc B w0 wb 76 (nodeC 49 pos n m name (.slice ko kl kc)) (tok (f+1) w0 (nodeC 49 pos n m name (.slice ko kl kc)).toList):=by
 intro w bs h hne hf
 have hR:RN B w0 wb f:=@hRs f (Nat.le_refl f)
 have hcap:=hx.cap
 obtain⟨vs,hkl,hr,hg,htok,hs,hc⟩:=hx.opened
 rw[htok] at hf⊢
 clear htok hx
 have e:asm 49 n m (name:ByteArray).data.toList (vs.map (kdAt f w0))=[95]::[]:=by
  rfl
 rw[e] at hf⊢
 clear e
 have q:=(Sw.start h hne hf).box (nodeC 49 pos n m name (.slice ko kl kc))
 clear h hne hf hr hg hc hkl hcap hRs
 have F:=q.f1
 go_enter Tryz.func76,Tryz.ntmps76
 go_wp2_with (first
  |(go_at_call 33;refine q.put ?_;clear q F;intro w2 q;have F:=q.f1))
 all_goals(go_end0;exact q.done (rfl))
set_option maxRecDepth 100000 in
set_option maxHeartbeats 2000000 in
theorem e76_19 (hRs:∀g,g≤f→RN B w0 wb g) (ht:Tab B w0) (hx:Nw B w0 (f+1) (nodeC 19 pos n m name (.slice ko kl kc)).toList):Wc B w0 wb 76 (nodeC 19 pos n m name (.slice ko kl kc)) (tok (f+1) w0 (nodeC 19 pos n m name (.slice ko kl kc)).toList):=by
 intro w bs h hne hf
 have hR:RN B w0 wb f:=@hRs f (Nat.le_refl f)
 have hcap:=hx.cap
 obtain⟨vs,hkl,hr,hg,htok,hs,hc⟩:=hx.opened
 rw[htok] at hf⊢
 clear htok hx
 have e:asm 19 n m (name:ByteArray).data.toList (vs.map (kdAt f w0))=tl name::[]:=by
  rfl
 rw[e] at hf⊢
 clear e
 have q:=(Sw.start h hne hf).box (nodeC 19 pos n m name (.slice ko kl kc))
 clear h hne hf hr hg hc hkl hcap hRs
 have F:=q.f1
 go_enter Tryz.func76,Tryz.ntmps76
 go_wp2_with (first
  |(go_at_call 33;refine q.put ?_;clear q F;intro w2 q;have F:=q.f1))
 all_goals(go_end0;exact q.done (rfl))
set_option maxRecDepth 100000 in
set_option maxHeartbeats 2000000 in
theorem e76_15 (hRs:∀g,g≤f→RN B w0 wb g) (ht:Tab B w0) (hx:Nw B w0 (f+1) (nodeC 15 pos n m name (.slice ko kl kc)).toList):Wc B w0 wb 76 (nodeC 15 pos n m name (.slice ko kl kc)) (tok (f+1) w0 (nodeC 15 pos n m name (.slice ko kl kc)).toList):=by
 intro w bs h hne hf
 have hR:RN B w0 wb f:=@hRs f (Nat.le_refl f)
 have hcap:=hx.cap
 obtain⟨vs,hkl,hr,hg,htok,hs,hc⟩:=hx.opened
 rw[htok] at hf⊢
 clear htok hx
 have hk:∀x∈vs,noK (labOf x):=fun x hx=>(fun x hx=>(hg.tuple rfl x hx).no) _ (List.mem_map.2 ⟨x,hx,rfl⟩)
 have e:asm 15 n m (name:ByteArray).data.toList (vs.map (kdAt f w0))=[40]::(pSep [44] (vs.map (kdAt f w0))++[[41]]):=by
  rfl
 rw[e] at hf⊢
 clear e
 have q:=(Sw.start h hne hf).box (nodeC 15 pos n m name (.slice ko kl kc))
 have HL:Hid (NR B w0 f ko vs∧(∀x∈vs,noK (labOf x))∧vs.length=kl):=⟨hr,hk,hkl⟩
 clear h hne hf hr hg hc hkl hcap hRs hk
 have F:=q.f1
 go_enter Tryz.func76,Tryz.ntmps76
 go_wp2_with (first
  |(go_at_call 33;refine q.put ?_;clear q F;intro w2 q;have F:=q.f1)
  |(go_at_call 97;refine q.go (fun a1 a2 a3=>list97n hR HL.out.1 HL.out.2.1 HL.out.2.2 a1 a2 a3) ?_;clear q F;intro w2 q;have F:=q.f1))
 all_goals(go_end0;exact q.done (by simp<;>rfl))
set_option maxRecDepth 100000 in
set_option maxHeartbeats 2000000 in
theorem e76_22 (hRs:∀g,g≤f→RN B w0 wb g) (ht:Tab B w0) (hx:Nw B w0 (f+1) (nodeC 22 pos n m name (.slice ko kl kc)).toList):Wc B w0 wb 76 (nodeC 22 pos n m name (.slice ko kl kc)) (tok (f+1) w0 (nodeC 22 pos n m name (.slice ko kl kc)).toList):=by
 intro w bs h hne hf
 have hR:RN B w0 wb f:=@hRs f (Nat.le_refl f)
 have hcap:=hx.cap
 obtain⟨vs,hkl,hr,hg,htok,hs,hc⟩:=hx.opened
 rw[htok] at hf⊢
 clear htok hx
 have hk:∀x∈vs,noK (labOf x):=fun x hx=>(hg.all (by decide)) _ (List.mem_map.2 ⟨x,hx,rfl⟩)
 have e:asm 22 n m (name:ByteArray).data.toList (vs.map (kdAt f w0))=[40]::(pSep [44] (vs.map (kdAt f w0))++[[41]]):=by
  rfl
 rw[e] at hf⊢
 clear e
 have q:=(Sw.start h hne hf).box (nodeC 22 pos n m name (.slice ko kl kc))
 have HL:Hid (NR B w0 f ko vs∧(∀x∈vs,noK (labOf x))∧vs.length=kl):=⟨hr,hk,hkl⟩
 clear h hne hf hr hg hc hkl hcap hRs hk
 have F:=q.f1
 go_enter Tryz.func76,Tryz.ntmps76
 go_wp2_with (first
  |(go_at_call 33;refine q.put ?_;clear q F;intro w2 q;have F:=q.f1)
  |(go_at_call 97;refine q.go (fun a1 a2 a3=>list97n hR HL.out.1 HL.out.2.1 HL.out.2.2 a1 a2 a3) ?_;clear q F;intro w2 q;have F:=q.f1))
 all_goals(go_end0;exact q.done (by simp<;>rfl))
set_option maxRecDepth 100000 in
set_option maxHeartbeats 2000000 in
theorem e76_53 (hRs:∀g,g≤f→RN B w0 wb g) (ht:Tab B w0) (hx:Nw B w0 (f+1) (nodeC 53 pos n m name (.slice ko kl kc)).toList):Wc B w0 wb 76 (nodeC 53 pos n m name (.slice ko kl kc)) (tok (f+1) w0 (nodeC 53 pos n m name (.slice ko kl kc)).toList):=by
 intro w bs h hne hf
 have hR:RN B w0 wb f:=@hRs f (Nat.le_refl f)
 have hcap:=hx.cap
 obtain⟨vs,hkl,hr,hg,htok,hs,hc⟩:=hx.opened
 rw[htok] at hf⊢
 clear htok hx
 have hk:∀x∈vs,noK (labOf x):=fun x hx=>(hg.all (by decide)) _ (List.mem_map.2 ⟨x,hx,rfl⟩)
 have e:asm 53 n m (name:ByteArray).data.toList (vs.map (kdAt f w0))=[40]::(pSep [44] (vs.map (kdAt f w0))++[[41]]):=by
  rfl
 rw[e] at hf⊢
 clear e
 have q:=(Sw.start h hne hf).box (nodeC 53 pos n m name (.slice ko kl kc))
 have HL:Hid (NR B w0 f ko vs∧(∀x∈vs,noK (labOf x))∧vs.length=kl):=⟨hr,hk,hkl⟩
 clear h hne hf hr hg hc hkl hcap hRs hk
 have F:=q.f1
 go_enter Tryz.func76,Tryz.ntmps76
 go_wp2_with (first
  |(go_at_call 33;refine q.put ?_;clear q F;intro w2 q;have F:=q.f1)
  |(go_at_call 97;refine q.go (fun a1 a2 a3=>list97n hR HL.out.1 HL.out.2.1 HL.out.2.2 a1 a2 a3) ?_;clear q F;intro w2 q;have F:=q.f1))
 all_goals(go_end0;exact q.done (by simp<;>rfl))
set_option maxRecDepth 100000 in
set_option maxHeartbeats 2000000 in
theorem e76_16f0 (hRs:∀g,g≤f→RN B w0 wb g) (ht:Tab B w0) (hnm:(name.data.toList.length !=0)=false) (hn01:n=0) (hx:Nw B w0 (f+1) (nodeC 16 pos n m name (.slice ko kl kc)).toList):Wc B w0 wb 76 (nodeC 16 pos n m name (.slice ko kl kc)) (tok (f+1) w0 (nodeC 16 pos n m name (.slice ko kl kc)).toList):=by
 intro w bs h hne hf
 have hR:RN B w0 wb f:=@hRs f (Nat.le_refl f)
 have hcap:=hx.cap
 obtain⟨vs,hkl,hr,hg,htok,hs,hc⟩:=hx.opened
 rw[htok] at hf⊢
 clear htok hx
 replace hnm:(name.data.toList.length !=0)=false:=hnm
 obtain rfl:=nm_empty hnm
 obtain rfl:n=0:=hn01
 obtain⟨y1,eks,nk1⟩:=(hg.ref rfl).2
 obtain rfl:kl=1:=by
  have:=congrArg List.length eks
  simp at this;omega
 have hk:∀x∈vs,noK (labOf x):=fun x hx=>by
  have h9:labOf x∈vs.map labOf:=List.mem_map.2 ⟨x,hx,rfl⟩
  rw[eks] at h9
  rw[List.mem_singleton.1 h9]
  exact nk1.no
 clear eks nk1
 obtain⟨k0,p0,a0,b0,s0,o0,l0,c0,g,X0,Y0,Z0,e0,y0,z0,rfl,W0,WO0,WR0,C0⟩:=kid_w hR hr hc (i:=0) (by omega) (fun x hx=>hk x (List.mem_of_getElem? hx))
 have e:asm 16 0 m (⟨#[]⟩:ByteArray).data.toList (vs.map (kdAt f w0))=[38]::(X0++[]):=by
  obtain⟨y,rfl⟩:=List.length_eq_one_iff.1 hkl
  have e9:kdAt f w0 y=⟨k0,l0,X0⟩:=by simpa[kd] using e0
  show [38]::(pNm (tl ⟨#[]⟩)++(pWhen ((0:Int)==1) [[109,117,116]]++pAll [kdAt f w0 y]))=_
  rw[e9,pNm,show((tl ⟨#[]⟩).length !=0)=false from rfl]
  simp[pWhen,pAll]
 rw[e] at hf⊢
 clear e
 have q:=(Sw.start h hne hf).box (nodeC 16 pos 0 m ⟨#[]⟩ (.slice (some ⟨g,0,none⟩) 1 kc))
 have HW0:Hid (Wc B w0 wb 76 (nodeC k0 p0 a0 b0 s0 (.slice o0 l0 c0)) X0):=W0
 have HC0:Hid (∀W,Below B w0 W→B≤W.heap.size→g<W.heap.size∧∀j,j<11→W.cell? ⟨g,0*11+j,none⟩=(nodeC k0 p0 a0 b0 s0 (.slice o0 l0 c0)).toList[j]?):=C0
 clear e0 y0 z0 W0 WO0 WR0 C0
 clear h hne hf hr hg hc hkl hcap hRs hk hnm
 have F:=q.f1
 have lg:=(HC0.out _ q.wr.bel q.wr.base).1
 have G0:=kid0 (HC0.out _ q.wr.bel q.wr.base).2
 go_enter Tryz.func76,Tryz.ntmps76
 go_wp2_with (first
  |(go_at_call 33;refine q.put ?_;clear q F lg G0;intro w2 q;have F:=q.f1;have lg:=(HC0.out _ q.wr.bel q.wr.base).1;have G0:=kid0 (HC0.out _ q.wr.bel q.wr.base).2)
  |(go_at_call 76;refine q.go (fun a1 a2 a3=>HW0.out a1 a2 a3) ?_;clear q F lg G0;intro w2 q;have F:=q.f1;have lg:=(HC0.out _ q.wr.bel q.wr.base).1;have G0:=kid0 (HC0.out _ q.wr.bel q.wr.base).2))
 all_goals(go_end0;exact q.done (by simp<;>rfl))
set_option maxRecDepth 100000 in
set_option maxHeartbeats 2000000 in
theorem e76_16f1 (hRs:∀g,g≤f→RN B w0 wb g) (ht:Tab B w0) (hnm:(name.data.toList.length !=0)=false) (hn01:n=1) (hx:Nw B w0 (f+1) (nodeC 16 pos n m name (.slice ko kl kc)).toList):Wc B w0 wb 76 (nodeC 16 pos n m name (.slice ko kl kc)) (tok (f+1) w0 (nodeC 16 pos n m name (.slice ko kl kc)).toList):=by
 intro w bs h hne hf
 have hR:RN B w0 wb f:=@hRs f (Nat.le_refl f)
 have hcap:=hx.cap
 obtain⟨vs,hkl,hr,hg,htok,hs,hc⟩:=hx.opened
 rw[htok] at hf⊢
 clear htok hx
 replace hnm:(name.data.toList.length !=0)=false:=hnm
 obtain rfl:=nm_empty hnm
 obtain rfl:n=1:=hn01
 obtain⟨y1,eks,nk1⟩:=(hg.ref rfl).2
 obtain rfl:kl=1:=by
  have:=congrArg List.length eks
  simp at this;omega
 have hk:∀x∈vs,noK (labOf x):=fun x hx=>by
  have h9:labOf x∈vs.map labOf:=List.mem_map.2 ⟨x,hx,rfl⟩
  rw[eks] at h9
  rw[List.mem_singleton.1 h9]
  exact nk1.no
 clear eks nk1
 obtain⟨k0,p0,a0,b0,s0,o0,l0,c0,g,X0,Y0,Z0,e0,y0,z0,rfl,W0,WO0,WR0,C0⟩:=kid_w hR hr hc (i:=0) (by omega) (fun x hx=>hk x (List.mem_of_getElem? hx))
 have e:asm 16 1 m (⟨#[]⟩:ByteArray).data.toList (vs.map (kdAt f w0))=[38]::[109,117,116]::(X0++[]):=by
  obtain⟨y,rfl⟩:=List.length_eq_one_iff.1 hkl
  have e9:kdAt f w0 y=⟨k0,l0,X0⟩:=by simpa[kd] using e0
  show [38]::(pNm (tl ⟨#[]⟩)++(pWhen ((1:Int)==1) [[109,117,116]]++pAll [kdAt f w0 y]))=_
  rw[e9,pNm,show((tl ⟨#[]⟩).length !=0)=false from rfl]
  simp[pWhen,pAll]
 rw[e] at hf⊢
 clear e
 have q:=(Sw.start h hne hf).box (nodeC 16 pos 1 m ⟨#[]⟩ (.slice (some ⟨g,0,none⟩) 1 kc))
 have HW0:Hid (Wc B w0 wb 76 (nodeC k0 p0 a0 b0 s0 (.slice o0 l0 c0)) X0):=W0
 have HC0:Hid (∀W,Below B w0 W→B≤W.heap.size→g<W.heap.size∧∀j,j<11→W.cell? ⟨g,0*11+j,none⟩=(nodeC k0 p0 a0 b0 s0 (.slice o0 l0 c0)).toList[j]?):=C0
 clear e0 y0 z0 W0 WO0 WR0 C0
 clear h hne hf hr hg hc hkl hcap hRs hk hnm
 have F:=q.f1
 have lg:=(HC0.out _ q.wr.bel q.wr.base).1
 have G0:=kid0 (HC0.out _ q.wr.bel q.wr.base).2
 go_enter Tryz.func76,Tryz.ntmps76
 go_wp2_with (first
  |(go_at_call 33;refine q.put ?_;clear q F lg G0;intro w2 q;have F:=q.f1;have lg:=(HC0.out _ q.wr.bel q.wr.base).1;have G0:=kid0 (HC0.out _ q.wr.bel q.wr.base).2)
  |(go_at_call 76;refine q.go (fun a1 a2 a3=>HW0.out a1 a2 a3) ?_;clear q F lg G0;intro w2 q;have F:=q.f1;have lg:=(HC0.out _ q.wr.bel q.wr.base).1;have G0:=kid0 (HC0.out _ q.wr.bel q.wr.base).2))
 all_goals(go_end0;exact q.done (by simp<;>rfl))
set_option maxRecDepth 100000 in
set_option maxHeartbeats 2000000 in
theorem e76_16t0 (hRs:∀g,g≤f→RN B w0 wb g) (ht:Tab B w0) (hnm:(name.data.toList.length !=0)=true) (hn01:n=0) (hx:Nw B w0 (f+1) (nodeC 16 pos n m name (.slice ko kl kc)).toList):Wc B w0 wb 76 (nodeC 16 pos n m name (.slice ko kl kc)) (tok (f+1) w0 (nodeC 16 pos n m name (.slice ko kl kc)).toList):=by
 intro w bs h hne hf
 have hR:RN B w0 wb f:=@hRs f (Nat.le_refl f)
 have hcap:=hx.cap
 obtain⟨vs,hkl,hr,hg,htok,hs,hc⟩:=hx.opened
 rw[htok] at hf⊢
 clear htok hx
 replace hnm:(name.data.toList.length !=0)=true:=hnm
 have hne2:=nm_some hnm
 obtain rfl:n=0:=hn01
 obtain⟨y1,eks,nk1⟩:=(hg.ref rfl).2
 obtain rfl:kl=1:=by
  have:=congrArg List.length eks
  simp at this;omega
 have hk:∀x∈vs,noK (labOf x):=fun x hx=>by
  have h9:labOf x∈vs.map labOf:=List.mem_map.2 ⟨x,hx,rfl⟩
  rw[eks] at h9
  rw[List.mem_singleton.1 h9]
  exact nk1.no
 clear eks nk1
 obtain⟨k0,p0,a0,b0,s0,o0,l0,c0,g,X0,Y0,Z0,e0,y0,z0,rfl,W0,WO0,WR0,C0⟩:=kid_w hR hr hc (i:=0) (by omega) (fun x hx=>hk x (List.mem_of_getElem? hx))
 have e:asm 16 0 m (name:ByteArray).data.toList (vs.map (kdAt f w0))=[38]::tl name::(X0++[]):=by
  obtain⟨y,rfl⟩:=List.length_eq_one_iff.1 hkl
  have e9:kdAt f w0 y=⟨k0,l0,X0⟩:=by simpa[kd] using e0
  show [38]::(pNm (tl name)++(pWhen ((0:Int)==1) [[109,117,116]]++pAll [kdAt f w0 y]))=_
  rw[e9,pNm,show((tl name).length !=0)=true from hnm]
  simp[pWhen,pAll]
 rw[e] at hf⊢
 clear e
 have q:=(Sw.start h hne hf).box (nodeC 16 pos 0 m name (.slice (some ⟨g,0,none⟩) 1 kc))
 have HW0:Hid (Wc B w0 wb 76 (nodeC k0 p0 a0 b0 s0 (.slice o0 l0 c0)) X0):=W0
 have HC0:Hid (∀W,Below B w0 W→B≤W.heap.size→g<W.heap.size∧∀j,j<11→W.cell? ⟨g,0*11+j,none⟩=(nodeC k0 p0 a0 b0 s0 (.slice o0 l0 c0)).toList[j]?):=C0
 clear e0 y0 z0 W0 WO0 WR0 C0
 clear h hne hf hr hg hc hkl hcap hRs hk hnm
 have F:=q.f1
 have lg:=(HC0.out _ q.wr.bel q.wr.base).1
 have G0:=kid0 (HC0.out _ q.wr.bel q.wr.base).2
 go_enter Tryz.func76,Tryz.ntmps76
 go_wp2_with (first
  |(go_at_call 33;refine q.put ?_;clear q F lg G0;intro w2 q;have F:=q.f1;have lg:=(HC0.out _ q.wr.bel q.wr.base).1;have G0:=kid0 (HC0.out _ q.wr.bel q.wr.base).2)
  |(go_at_call 76;refine q.go (fun a1 a2 a3=>HW0.out a1 a2 a3) ?_;clear q F lg G0;intro w2 q;have F:=q.f1;have lg:=(HC0.out _ q.wr.bel q.wr.base).1;have G0:=kid0 (HC0.out _ q.wr.bel q.wr.base).2))
 all_goals(go_end0;exact q.done (by simp<;>rfl))
set_option maxRecDepth 100000 in
set_option maxHeartbeats 2000000 in
theorem e76_16t1 (hRs:∀g,g≤f→RN B w0 wb g) (ht:Tab B w0) (hnm:(name.data.toList.length !=0)=true) (hn01:n=1) (hx:Nw B w0 (f+1) (nodeC 16 pos n m name (.slice ko kl kc)).toList):Wc B w0 wb 76 (nodeC 16 pos n m name (.slice ko kl kc)) (tok (f+1) w0 (nodeC 16 pos n m name (.slice ko kl kc)).toList):=by
 intro w bs h hne hf
 have hR:RN B w0 wb f:=@hRs f (Nat.le_refl f)
 have hcap:=hx.cap
 obtain⟨vs,hkl,hr,hg,htok,hs,hc⟩:=hx.opened
 rw[htok] at hf⊢
 clear htok hx
 replace hnm:(name.data.toList.length !=0)=true:=hnm
 have hne2:=nm_some hnm
 obtain rfl:n=1:=hn01
 obtain⟨y1,eks,nk1⟩:=(hg.ref rfl).2
 obtain rfl:kl=1:=by
  have:=congrArg List.length eks
  simp at this;omega
 have hk:∀x∈vs,noK (labOf x):=fun x hx=>by
  have h9:labOf x∈vs.map labOf:=List.mem_map.2 ⟨x,hx,rfl⟩
  rw[eks] at h9
  rw[List.mem_singleton.1 h9]
  exact nk1.no
 clear eks nk1
 obtain⟨k0,p0,a0,b0,s0,o0,l0,c0,g,X0,Y0,Z0,e0,y0,z0,rfl,W0,WO0,WR0,C0⟩:=kid_w hR hr hc (i:=0) (by omega) (fun x hx=>hk x (List.mem_of_getElem? hx))
 have e:asm 16 1 m (name:ByteArray).data.toList (vs.map (kdAt f w0))=[38]::tl name::[109,117,116]::(X0++[]):=by
  obtain⟨y,rfl⟩:=List.length_eq_one_iff.1 hkl
  have e9:kdAt f w0 y=⟨k0,l0,X0⟩:=by simpa[kd] using e0
  show [38]::(pNm (tl name)++(pWhen ((1:Int)==1) [[109,117,116]]++pAll [kdAt f w0 y]))=_
  rw[e9,pNm,show((tl name).length !=0)=true from hnm]
  simp[pWhen,pAll]
 rw[e] at hf⊢
 clear e
 have q:=(Sw.start h hne hf).box (nodeC 16 pos 1 m name (.slice (some ⟨g,0,none⟩) 1 kc))
 have HW0:Hid (Wc B w0 wb 76 (nodeC k0 p0 a0 b0 s0 (.slice o0 l0 c0)) X0):=W0
 have HC0:Hid (∀W,Below B w0 W→B≤W.heap.size→g<W.heap.size∧∀j,j<11→W.cell? ⟨g,0*11+j,none⟩=(nodeC k0 p0 a0 b0 s0 (.slice o0 l0 c0)).toList[j]?):=C0
 clear e0 y0 z0 W0 WO0 WR0 C0
 clear h hne hf hr hg hc hkl hcap hRs hk hnm
 have F:=q.f1
 have lg:=(HC0.out _ q.wr.bel q.wr.base).1
 have G0:=kid0 (HC0.out _ q.wr.bel q.wr.base).2
 go_enter Tryz.func76,Tryz.ntmps76
 go_wp2_with (first
  |(go_at_call 33;refine q.put ?_;clear q F lg G0;intro w2 q;have F:=q.f1;have lg:=(HC0.out _ q.wr.bel q.wr.base).1;have G0:=kid0 (HC0.out _ q.wr.bel q.wr.base).2)
  |(go_at_call 76;refine q.go (fun a1 a2 a3=>HW0.out a1 a2 a3) ?_;clear q F lg G0;intro w2 q;have F:=q.f1;have lg:=(HC0.out _ q.wr.bel q.wr.base).1;have G0:=kid0 (HC0.out _ q.wr.bel q.wr.base).2))
 all_goals(go_end0;exact q.done (by simp<;>rfl))
set_option maxRecDepth 100000 in
set_option maxHeartbeats 2000000 in
theorem e76_17 (hRs:∀g,g≤f→RN B w0 wb g) (ht:Tab B w0) (hx:Nw B w0 (f+1) (nodeC 17 pos n m name (.slice ko kl kc)).toList):Wc B w0 wb 76 (nodeC 17 pos n m name (.slice ko kl kc)) (tok (f+1) w0 (nodeC 17 pos n m name (.slice ko kl kc)).toList):=by
 intro w bs h hne hf
 have hR:RN B w0 wb f:=@hRs f (Nat.le_refl f)
 have hcap:=hx.cap
 obtain⟨vs,hkl,hr,hg,htok,hs,hc⟩:=hx.opened
 rw[htok] at hf⊢
 clear htok hx
 obtain⟨last,rfl⟩:∃l1,kl=l1+1:=by
  have:=(hg.fnt rfl).1
  cases vs with
  |nil=>exact absurd rfl this
  |cons a r=>exact⟨r.length,by rw[←hkl];rfl⟩
 have hk:∀x∈vs,noK (labOf x):=fun x hx=>(fun x hx=>((hg.fnt rfl).2 x hx).no) _ (List.mem_map.2 ⟨x,hx,rfl⟩)
 have e:asm 17 n m (name:ByteArray).data.toList (vs.map (kdAt f w0))=([102,110]::(pNm (tl name)++(pFn n++(pRow [40] [41] ((vs.map (kdAt f w0)).take last)++([45,62]::(kd (vs.map (kdAt f w0)) last).t)))))++[]:=by
  rw[List.append_nil];show [102,110]::(pNm (tl name)++(pFn n++(pRow [40] [41] ((vs.map (kdAt f w0)).take ((vs.map (kdAt f w0)).length - 1))++([45,62]::(kd (vs.map (kdAt f w0)) ((vs.map (kdAt f w0)).length - 1)).t))))=_;rw[show(vs.map (kdAt f w0)).length - 1=last from by rw[List.length_map];omega]
 rw[e] at hf⊢
 clear e
 have q:=(Sw.start h hne hf).box (nodeC 17 pos n m name (.slice ko (last+1) kc))
 have HF:Hid (NR B w0 f ko vs∧(∀i x,vs[i]? =some x→∃g,ko=some ⟨g,0,none⟩∧g<B∧∀j,j<11→w0.cell? ⟨g,i*11+j,none⟩=x[j]?)∧vs.length=last+1∧last+1≤kc∧∀x∈vs,noK (labOf x)):=⟨hr,hc,hkl,hcap,hk⟩
 clear h hne hf hr hg hc hkl hcap hRs hk
 have F:=q.f1
 go_enter Tryz.func76,Tryz.ntmps76
 go_wp2_with (first
  |(go_at_call 98;refine q.go (fun a1 a2 a3=>fnType98 hR HF.out.1 HF.out.2.1 HF.out.2.2.1 HF.out.2.2.2.1 HF.out.2.2.2.2 a1 a2 a3) ?_;clear q F;intro w2 q;have F:=q.f1))
 all_goals(go_end0;exact q.done (by simp<;>rfl))
set_option maxRecDepth 100000 in
set_option maxHeartbeats 2000000 in
theorem e76_50 (hRs:∀g,g≤f→RN B w0 wb g) (ht:Tab B w0) (hx:Nw B w0 (f+1) (nodeC 50 pos n m name (.slice ko kl kc)).toList):Wc B w0 wb 76 (nodeC 50 pos n m name (.slice ko kl kc)) (tok (f+1) w0 (nodeC 50 pos n m name (.slice ko kl kc)).toList):=by
 intro w bs h hne hf
 have hR:RN B w0 wb f:=@hRs f (Nat.le_refl f)
 have hcap:=hx.cap
 obtain⟨vs,hkl,hr,hg,htok,hs,hc⟩:=hx.opened
 rw[htok] at hf⊢
 clear htok hx
 have e:asm 50 n m (name:ByteArray).data.toList (vs.map (kdAt f w0))=(pWhen (decide (0<n)) [[114,101,102]]++(pWhen (n==2||m==1) [[109,117,116]]++[tl name]))++[]:=by
  rw[List.append_nil];rfl
 rw[e] at hf⊢
 clear e
 have q:=(Sw.start h hne hf).box (nodeC 50 pos n m name (.slice ko kl kc))
 clear h hne hf hr hg hc hkl hcap hRs
 have F:=q.f1
 go_enter Tryz.func76,Tryz.ntmps76
 go_wp2_with (first
  |(go_at_call 100;refine q.go (fun a1 a2 a3=>bind100 a1 a2 a3) ?_;clear q F;intro w2 q;have F:=q.f1))
 all_goals(go_end0;exact q.done (by simp<;>rfl))
set_option maxRecDepth 100000 in
set_option maxHeartbeats 2000000 in
theorem e76_18a (hRs:∀g,g≤f→RN B w0 wb g) (ht:Tab B w0) (hz0:kl=0) (hx:Nw B w0 (f+1) (nodeC 18 pos n m name (.slice ko kl kc)).toList):Wc B w0 wb 76 (nodeC 18 pos n m name (.slice ko kl kc)) (tok (f+1) w0 (nodeC 18 pos n m name (.slice ko kl kc)).toList):=by
 intro w bs h hne hf
 have hR:RN B w0 wb f:=@hRs f (Nat.le_refl f)
 have hcap:=hx.cap
 obtain⟨vs,hkl,hr,hg,htok,hs,hc⟩:=hx.opened
 rw[htok] at hf⊢
 clear htok hx
 obtain rfl:kl=0:=hz0
 have HNT:Hid (NTl name.data.toList):=(hg.path rfl).1.ntl
 have e:asm 18 n m (name:ByteArray).data.toList (vs.map (kdAt f w0))=pth (tl name)::[]:=by
  show pth (tl name)::pAng (vs.map (kdAt f w0))=_;rw[pAng,if_pos (by rw[List.length_map];exact hkl)]
 rw[e] at hf⊢
 clear e
 have q:=(Sw.start h hne hf).box (nodeC 18 pos n m name (.slice ko 0 kc))
 clear h hne hf hr hg hc hkl hcap hRs
 have F:=q.f1
 go_enter Tryz.func76,Tryz.ntmps76
 go_wp2_with (first
  |(go_at_call 72;refine q.path hs HNT.out ?_;clear q F;intro w2 q;have F:=q.f1))
 all_goals(go_end0;exact q.done (by simp<;>rfl))
set_option maxRecDepth 100000 in
set_option maxHeartbeats 2000000 in
theorem e76_18b (hRs:∀g,g≤f→RN B w0 wb g) (ht:Tab B w0) (hz0:0<kl) (hx:Nw B w0 (f+1) (nodeC 18 pos n m name (.slice ko kl kc)).toList):Wc B w0 wb 76 (nodeC 18 pos n m name (.slice ko kl kc)) (tok (f+1) w0 (nodeC 18 pos n m name (.slice ko kl kc)).toList):=by
 intro w bs h hne hf
 have hR:RN B w0 wb f:=@hRs f (Nat.le_refl f)
 have hcap:=hx.cap
 obtain⟨vs,hkl,hr,hg,htok,hs,hc⟩:=hx.opened
 rw[htok] at hf⊢
 clear htok hx
 have hI:(0:Int)<(kl:Int):=by omega
 have HNT:Hid (NTl name.data.toList):=(hg.path rfl).1.ntl
 have hal:∀z∈vs.map labOf,noK z:=by
  intro z hz
  obtain⟨-,ls,ts,e,hl,hts⟩:=hg.path rfl
  rw[e] at hz
  rcases List.mem_append.1 hz with hz|hz
  ·rw[hl z hz];unfold noK;omega
  ·exact(hts z hz).no
 have hk:∀x∈vs,noK (labOf x):=fun x hx=>hal _ (List.mem_map.2 ⟨x,hx,rfl⟩)
 have e:asm 18 n m (name:ByteArray).data.toList (vs.map (kdAt f w0))=pth (tl name)::[60]::(pSep [44] (vs.map (kdAt f w0))++[[62]]):=by
  show pth (tl name)::pAng (vs.map (kdAt f w0))=_;rw[pAng,if_neg (by rw[List.length_map];omega)];rfl
 rw[e] at hf⊢
 clear e
 have q:=(Sw.start h hne hf).box (nodeC 18 pos n m name (.slice ko kl kc))
 have HL:Hid (NR B w0 f ko vs∧(∀x∈vs,noK (labOf x))∧vs.length=kl):=⟨hr,hk,hkl⟩
 clear h hne hf hr hg hc hkl hcap hRs hk hz0 hal
 have F:=q.f1
 go_enter Tryz.func76,Tryz.ntmps76
 go_wp2_with (first
  |(go_at_call 72;refine q.path hs HNT.out ?_;clear q F;intro w2 q;have F:=q.f1)
  |(go_at_call 33;refine q.put ?_;clear q F;intro w2 q;have F:=q.f1)
  |(go_at_call 97;refine q.go (fun a1 a2 a3=>list97n hR HL.out.1 HL.out.2.1 HL.out.2.2 a1 a2 a3) ?_;clear q F;intro w2 q;have F:=q.f1))
 all_goals(go_end0;exact q.done (by simp<;>rfl))
set_option maxRecDepth 100000 in
set_option maxHeartbeats 2000000 in
theorem e76_54a (hRs:∀g,g≤f→RN B w0 wb g) (ht:Tab B w0) (hz0:kl=0) (hx:Nw B w0 (f+1) (nodeC 54 pos n m name (.slice ko kl kc)).toList):Wc B w0 wb 76 (nodeC 54 pos n m name (.slice ko kl kc)) (tok (f+1) w0 (nodeC 54 pos n m name (.slice ko kl kc)).toList):=by
 intro w bs h hne hf
 have hR:RN B w0 wb f:=@hRs f (Nat.le_refl f)
 have hcap:=hx.cap
 obtain⟨vs,hkl,hr,hg,htok,hs,hc⟩:=hx.opened
 rw[htok] at hf⊢
 clear htok hx
 obtain rfl:kl=0:=hz0
 have HNT:Hid (NTl name.data.toList):=(hg.pathed (.inr rfl)).1.ntl
 have e:asm 54 n m (name:ByteArray).data.toList (vs.map (kdAt f w0))=pth (tl name)::[]:=by
  show pth (tl name)::pRnd (vs.map (kdAt f w0))=_;rw[pRnd,if_pos (by rw[List.length_map];exact hkl)]
 rw[e] at hf⊢
 clear e
 have q:=(Sw.start h hne hf).box (nodeC 54 pos n m name (.slice ko 0 kc))
 clear h hne hf hr hg hc hkl hcap hRs
 have F:=q.f1
 go_enter Tryz.func76,Tryz.ntmps76
 go_wp2_with (first
  |(go_at_call 72;refine q.path hs HNT.out ?_;clear q F;intro w2 q;have F:=q.f1))
 all_goals(go_end0;exact q.done (by simp<;>rfl))
set_option maxRecDepth 100000 in
set_option maxHeartbeats 2000000 in
theorem e76_54b (hRs:∀g,g≤f→RN B w0 wb g) (ht:Tab B w0) (hz0:0<kl) (hx:Nw B w0 (f+1) (nodeC 54 pos n m name (.slice ko kl kc)).toList):Wc B w0 wb 76 (nodeC 54 pos n m name (.slice ko kl kc)) (tok (f+1) w0 (nodeC 54 pos n m name (.slice ko kl kc)).toList):=by
 intro w bs h hne hf
 have hR:RN B w0 wb f:=@hRs f (Nat.le_refl f)
 have hcap:=hx.cap
 obtain⟨vs,hkl,hr,hg,htok,hs,hc⟩:=hx.opened
 rw[htok] at hf⊢
 clear htok hx
 have hI:(0:Int)<(kl:Int):=by omega
 have HNT:Hid (NTl name.data.toList):=(hg.pathed (.inr rfl)).1.ntl
 have hk:∀x∈vs,noK (labOf x):=fun x hx=>(hg.pathed (.inr rfl)).2 _ (List.mem_map.2 ⟨x,hx,rfl⟩)
 have e:asm 54 n m (name:ByteArray).data.toList (vs.map (kdAt f w0))=pth (tl name)::[40]::(pSep [44] (vs.map (kdAt f w0))++[[41]]):=by
  show pth (tl name)::pRnd (vs.map (kdAt f w0))=_;rw[pRnd,if_neg (by rw[List.length_map];omega)];rfl
 rw[e] at hf⊢
 clear e
 have q:=(Sw.start h hne hf).box (nodeC 54 pos n m name (.slice ko kl kc))
 have HL:Hid (NR B w0 f ko vs∧(∀x∈vs,noK (labOf x))∧vs.length=kl):=⟨hr,hk,hkl⟩
 clear h hne hf hr hg hc hkl hcap hRs hk hz0
 have F:=q.f1
 go_enter Tryz.func76,Tryz.ntmps76
 go_wp2_with (first
  |(go_at_call 72;refine q.path hs HNT.out ?_;clear q F;intro w2 q;have F:=q.f1)
  |(go_at_call 33;refine q.put ?_;clear q F;intro w2 q;have F:=q.f1)
  |(go_at_call 97;refine q.go (fun a1 a2 a3=>list97n hR HL.out.1 HL.out.2.1 HL.out.2.2 a1 a2 a3) ?_;clear q F;intro w2 q;have F:=q.f1))
 all_goals(go_end0;exact q.done (by simp<;>rfl))
end
end Go.Proofs.YtagdihffmjopaaaGreatDoor
