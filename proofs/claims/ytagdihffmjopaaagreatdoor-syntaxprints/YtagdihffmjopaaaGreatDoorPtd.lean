/- The document's writer: expressions. -/
import Derived.Test.YtagdihffmjopaaaGreatDoorPtc
namespace Go.Proofs.YtagdihffmjopaaaGreatDoor
set_option linter.all false
open Go.RowKit
section
variable{B:Nat} {w0 w:World} {wb f:Nat} {bs:List UInt8} {kind pos n m:Int} {name:ByteArray} {ko:Option Addr} {kl kc:Nat}
set_option maxRecDepth 100000 in
set_option maxHeartbeats 2000000 in
theorem e101_23 (hRs:∀g,g≤f→RN B w0 wb g) (ht:Tab B w0) (hx:Nw B w0 (f+1) (nodeC 23 pos n m name (.slice ko kl kc)).toList):Wc B w0 wb 101 (nodeC 23 pos n m name (.slice ko kl kc)) (tok (f+1) w0 (nodeC 23 pos n m name (.slice ko kl kc)).toList):=by
 intro w bs h hne hf
 have hR:RN B w0 wb f:=@hRs f (Nat.le_refl f)
 have hcap:=hx.cap
 obtain⟨vs,hkl,hr,hg,htok,hs,hc⟩:=hx.opened
 rw[htok] at hf⊢
 clear htok hx
 have HNT:Hid (NTl name.data.toList):=(hg.pathed (.inl rfl)).1.ntl
 have hk:∀x∈vs,noK (labOf x):=fun x hx=>(hg.pathed (.inl rfl)).2 _ (List.mem_map.2 ⟨x,hx,rfl⟩)
 have e:asm 23 n m (name:ByteArray).data.toList (vs.map (kdAt f w0))=pth (tl name)::(pTys (vs.map (kdAt f w0))++[]):=by
  rw[List.append_nil];rfl
 rw[e] at hf⊢
 clear e
 have q:=(Sw.start h hne hf).box (nodeC 23 pos n m name (.slice ko kl kc))
 have HL:Hid (NR B w0 f ko vs∧(∀x∈vs,noK (labOf x))∧vs.length=kl):=⟨hr,hk,hkl⟩
 clear h hne hf hr hg hc hkl hcap hRs hk
 have F:=q.f1
 go_enter Tryz.func101,Tryz.ntmps101
 go_wp2_with (first
  |(go_at_call 114;refine q.go (fun a1 a2 a3=>written114n hR HL.out.1 HL.out.2.1 HL.out.2.2 a1 a2 a3) ?_;clear q F;intro w2 q;have F:=q.f1)
  |(go_at_call 72;refine q.path hs HNT.out ?_;clear q F;intro w2 q;have F:=q.f1))
 all_goals(go_end0;exact q.done (by simp<;>rfl))
set_option maxRecDepth 100000 in
set_option maxHeartbeats 2000000 in
theorem e101_24 (hRs:∀g,g≤f→RN B w0 wb g) (ht:Tab B w0) (hx:Nw B w0 (f+1) (nodeC 24 pos n m name (.slice ko kl kc)).toList):Wc B w0 wb 101 (nodeC 24 pos n m name (.slice ko kl kc)) (tok (f+1) w0 (nodeC 24 pos n m name (.slice ko kl kc)).toList):=by
 intro w bs h hne hf
 have hR:RN B w0 wb f:=@hRs f (Nat.le_refl f)
 have hcap:=hx.cap
 obtain⟨vs,hkl,hr,hg,htok,hs,hc⟩:=hx.opened
 rw[htok] at hf⊢
 clear htok hx
 have:kl≠0:=by
  have:=(hg.call rfl).1
  intro h0
  rw[h0] at hkl
  rw[List.eq_nil_of_length_eq_zero hkl] at this
  exact this rfl
 obtain⟨l1,rfl⟩:∃l1,kl=l1+1:=⟨kl - 1,by omega⟩
 obtain⟨cz,rfl⟩:∃cz,kc=cz+1:=⟨kc - 1,by omega⟩
 have hk:∀x∈vs,noK (labOf x):=fun x hx=>(hg.call rfl).2 _ (List.mem_map.2 ⟨x,hx,rfl⟩)
 obtain⟨k0,p0,a0,b0,s0,o0,l0,c0,g,X0,Y0,Z0,e0,y0,z0,rfl,W0,WO0,WR0,C0⟩:=kid_w hR hr hc (i:=0) (by omega) (fun x hx=>hk x (List.mem_of_getElem? hx))
 obtain⟨us,hus⟩:∃us,us=vs.drop 1:=⟨_,rfl⟩
 have hul:us.length=l1:=by rw[hus,List.length_drop];omega
 have em:(vs.map (kdAt f w0)).drop 1=us.map (kdAt f w0):=by rw[hus,List.map_drop]
 have hb:=hr.few
 rw[hkl] at hb
 have e:asm 24 n m (name:ByteArray).data.toList (vs.map (kdAt f w0))=Y0++([40]::(pSep [44] (us.map (kdAt f w0))++[[41]])):=by
  show pOp (kd (vs.map (kdAt f w0)) 0)++pRow [40] [41] ((vs.map (kdAt f w0)).drop 1)=_;rw[e0,y0,em];rfl
 rw[e] at hf⊢
 clear e
 have q:=(Sw.start h hne hf).box (nodeC 24 pos n m name (.slice (some ⟨g,0,none⟩) (l1+1) (cz+1)))
 have HWO0:Hid (Wc B w0 wb 115 (nodeC k0 p0 a0 b0 s0 (.slice o0 l0 c0)) Y0):=WO0
 have HC0:Hid (∀W,Below B w0 W→B≤W.heap.size→g<W.heap.size∧∀j,j<11→W.cell? ⟨g,0*11+j,none⟩=(nodeC k0 p0 a0 b0 s0 (.slice o0 l0 c0)).toList[j]?):=C0
 have HL:Hid (NR B w0 f (some ⟨g,11,none⟩) us∧(∀x∈us,noK (labOf x))∧us.length=l1):=⟨by have:=hr.drop 1;rw[←hus] at this;simpa using this,fun x hx=>hk x (List.mem_of_mem_drop (hus▸hx)),hul⟩
 have HZ:Hid (∀a,cz=0→NR B w0 f a us):=fun a hz=>by
  obtain rfl:us=[]:=List.eq_nil_of_length_eq_zero (by omega)
  exact NR.nil
 have hbI:(l1:Int)+1≤20000:=by omega
 have hcI:(l1:Int)≤(cz:Int):=by omega
 clear e0 y0 z0 W0 WO0 WR0 C0
 clear h hne hf hr hg hc hkl hcap hRs hus hul em hb hk
 have F:=q.f1
 have lg:=(HC0.out _ q.wr.bel q.wr.base).1
 have G0:=kid0 (HC0.out _ q.wr.bel q.wr.base).2
 go_enter Tryz.func101,Tryz.ntmps101
 go_wp2_with (first
  |(go_at_call 33;refine q.put ?_;clear q F lg G0;intro w2 q;have F:=q.f1;have lg:=(HC0.out _ q.wr.bel q.wr.base).1;have G0:=kid0 (HC0.out _ q.wr.bel q.wr.base).2)
  |(go_at_call 97;refine q.go (fun a1 a2 a3=>list97n hR (HZ.out _ (by first|rfl|assumption|omega)) HL.out.2.1 HL.out.2.2 a1 a2 a3) ?_;clear q F lg G0;intro w2 q;have F:=q.f1;have lg:=(HC0.out _ q.wr.bel q.wr.base).1;have G0:=kid0 (HC0.out _ q.wr.bel q.wr.base).2)
  |(go_at_call 97;refine q.go (fun a1 a2 a3=>list97n hR HL.out.1 HL.out.2.1 HL.out.2.2 a1 a2 a3) ?_;clear q F lg G0;intro w2 q;have F:=q.f1;have lg:=(HC0.out _ q.wr.bel q.wr.base).1;have G0:=kid0 (HC0.out _ q.wr.bel q.wr.base).2)
  |(go_at_call 115;refine q.go (fun a1 a2 a3=>HWO0.out a1 a2 a3) ?_;clear q F lg G0;intro w2 q;have F:=q.f1;have lg:=(HC0.out _ q.wr.bel q.wr.base).1;have G0:=kid0 (HC0.out _ q.wr.bel q.wr.base).2))
 all_goals(go_end0;exact q.done (by simp<;>rfl))
set_option maxRecDepth 100000 in
set_option maxHeartbeats 2000000 in
theorem e101_25a (hRs:∀g,g≤f→RN B w0 wb g) (ht:Tab B w0) (hnm:(name.data.toList.length !=0)=false) (hx:Nw B w0 (f+1) (nodeC 25 pos n m name (.slice ko kl kc)).toList):Wc B w0 wb 101 (nodeC 25 pos n m name (.slice ko kl kc)) (tok (f+1) w0 (nodeC 25 pos n m name (.slice ko kl kc)).toList):=by
 intro w bs h hne hf
 have hR:RN B w0 wb f:=@hRs f (Nat.le_refl f)
 have hcap:=hx.cap
 obtain⟨vs,hkl,hr,hg,htok,hs,hc⟩:=hx.opened
 rw[htok] at hf⊢
 clear htok hx
 replace hnm:(name.data.toList.length !=0)=false:=hnm
 obtain rfl:=nm_empty hnm
 have hb:=(hg.part rfl).1
 obtain⟨y1,eks,nk1⟩:=(hg.part rfl).2
 obtain rfl:kl=1:=by
  have:=congrArg List.length eks
  simp at this;omega
 have hk:∀x∈vs,noK (labOf x):=fun x hx=>by
  have h9:labOf x∈vs.map labOf:=List.mem_map.2 ⟨x,hx,rfl⟩
  rw[eks] at h9
  rw[List.mem_singleton.1 h9]
  exact nk1
 clear eks nk1
 obtain⟨k0,p0,a0,b0,s0,o0,l0,c0,g,X0,Y0,Z0,e0,y0,z0,rfl,W0,WO0,WR0,C0⟩:=kid_w hR hr hc (i:=0) (by omega) (fun x hx=>hk x (List.mem_of_getElem? hx))
 have e:asm 25 n m (⟨#[]⟩:ByteArray).data.toList (vs.map (kdAt f w0))=Y0++([46]::([Lib.itoa n]++[])):=by
  show pOp (kd (vs.map (kdAt f w0)) 0)++[[46],Lib.itoa n]=_;rw[e0,y0];rfl
 rw[e] at hf⊢
 clear e
 have q:=(Sw.start h hne hf).box (nodeC 25 pos n m ⟨#[]⟩ (.slice (some ⟨g,0,none⟩) 1 kc))
 have HWO0:Hid (Wc B w0 wb 115 (nodeC k0 p0 a0 b0 s0 (.slice o0 l0 c0)) Y0):=WO0
 have HC0:Hid (∀W,Below B w0 W→B≤W.heap.size→g<W.heap.size∧∀j,j<11→W.cell? ⟨g,0*11+j,none⟩=(nodeC k0 p0 a0 b0 s0 (.slice o0 l0 c0)).toList[j]?):=C0
 have HB:Hid (0≤n∧n≤9223372036854775807):=hb
 clear e0 y0 z0 W0 WO0 WR0 C0
 clear h hne hf hr hg hc hkl hcap hRs hb hk hnm
 have F:=q.f1
 have lg:=(HC0.out _ q.wr.bel q.wr.base).1
 have G0:=kid0 (HC0.out _ q.wr.bel q.wr.base).2
 go_enter Tryz.func101,Tryz.ntmps101
 go_wp2_with (first
  |(go_at_call 33;refine q.put ?_;clear q F lg G0;intro w2 q;have F:=q.f1;have lg:=(HC0.out _ q.wr.bel q.wr.base).1;have G0:=kid0 (HC0.out _ q.wr.bel q.wr.base).2)
  |(go_at_call 115;refine q.go (fun a1 a2 a3=>HWO0.out a1 a2 a3) ?_;clear q F lg G0;intro w2 q;have F:=q.f1;have lg:=(HC0.out _ q.wr.bel q.wr.base).1;have G0:=kid0 (HC0.out _ q.wr.bel q.wr.base).2)
  |(go_at_call 99;refine q.go (fun a1 a2 a3=>number99_pos ht HB.out.1 HB.out.2 a1 a2 a3) ?_;clear q F lg G0;intro w2 q;have F:=q.f1;have lg:=(HC0.out _ q.wr.bel q.wr.base).1;have G0:=kid0 (HC0.out _ q.wr.bel q.wr.base).2))
 all_goals(go_end0;exact q.done (by simp<;>rfl))
set_option maxRecDepth 100000 in
set_option maxHeartbeats 2000000 in
theorem e101_25b (hRs:∀g,g≤f→RN B w0 wb g) (ht:Tab B w0) (hnm:(name.data.toList.length !=0)=true) (hx:Nw B w0 (f+1) (nodeC 25 pos n m name (.slice ko kl kc)).toList):Wc B w0 wb 101 (nodeC 25 pos n m name (.slice ko kl kc)) (tok (f+1) w0 (nodeC 25 pos n m name (.slice ko kl kc)).toList):=by
 intro w bs h hne hf
 have hR:RN B w0 wb f:=@hRs f (Nat.le_refl f)
 have hcap:=hx.cap
 obtain⟨vs,hkl,hr,hg,htok,hs,hc⟩:=hx.opened
 rw[htok] at hf⊢
 clear htok hx
 replace hnm:(name.data.toList.length !=0)=true:=hnm
 have hne2:=nm_some hnm
 have hn1:¬(tl name).length=0:=by simpa[tl] using hnm
 obtain⟨y1,eks,nk1⟩:=(hg.part rfl).2
 obtain rfl:kl=1:=by
  have:=congrArg List.length eks
  simp at this;omega
 have hk:∀x∈vs,noK (labOf x):=fun x hx=>by
  have h9:labOf x∈vs.map labOf:=List.mem_map.2 ⟨x,hx,rfl⟩
  rw[eks] at h9
  rw[List.mem_singleton.1 h9]
  exact nk1
 clear eks nk1
 obtain⟨k0,p0,a0,b0,s0,o0,l0,c0,g,X0,Y0,Z0,e0,y0,z0,rfl,W0,WO0,WR0,C0⟩:=kid_w hR hr hc (i:=0) (by omega) (fun x hx=>hk x (List.mem_of_getElem? hx))
 have e:asm 25 n m (name:ByteArray).data.toList (vs.map (kdAt f w0))=Y0++([46]::(tl name::[])):=by
  show pOp (kd (vs.map (kdAt f w0)) 0)++[[46],if(tl name).length=0 then Lib.itoa n else tl name]=_;rw[e0,y0,if_neg hn1]
 rw[e] at hf⊢
 clear e
 have q:=(Sw.start h hne hf).box (nodeC 25 pos n m name (.slice (some ⟨g,0,none⟩) 1 kc))
 have HWO0:Hid (Wc B w0 wb 115 (nodeC k0 p0 a0 b0 s0 (.slice o0 l0 c0)) Y0):=WO0
 have HC0:Hid (∀W,Below B w0 W→B≤W.heap.size→g<W.heap.size∧∀j,j<11→W.cell? ⟨g,0*11+j,none⟩=(nodeC k0 p0 a0 b0 s0 (.slice o0 l0 c0)).toList[j]?):=C0
 clear e0 y0 z0 W0 WO0 WR0 C0
 clear h hne hf hr hg hc hkl hcap hRs hk hnm hn1
 have F:=q.f1
 have lg:=(HC0.out _ q.wr.bel q.wr.base).1
 have G0:=kid0 (HC0.out _ q.wr.bel q.wr.base).2
 go_enter Tryz.func101,Tryz.ntmps101
 go_wp2_with (first
  |(go_at_call 33;refine q.put ?_;clear q F lg G0;intro w2 q;have F:=q.f1;have lg:=(HC0.out _ q.wr.bel q.wr.base).1;have G0:=kid0 (HC0.out _ q.wr.bel q.wr.base).2)
  |(go_at_call 115;refine q.go (fun a1 a2 a3=>HWO0.out a1 a2 a3) ?_;clear q F lg G0;intro w2 q;have F:=q.f1;have lg:=(HC0.out _ q.wr.bel q.wr.base).1;have G0:=kid0 (HC0.out _ q.wr.bel q.wr.base).2))
 all_goals(go_end0;exact q.done (by simp<;>rfl))
set_option maxRecDepth 100000 in
set_option maxHeartbeats 2000000 in
theorem e101_26 (hRs:∀g,g≤f→RN B w0 wb g) (ht:Tab B w0) (hx:Nw B w0 (f+1) (nodeC 26 pos n m name (.slice ko kl kc)).toList):Wc B w0 wb 101 (nodeC 26 pos n m name (.slice ko kl kc)) (tok (f+1) w0 (nodeC 26 pos n m name (.slice ko kl kc)).toList):=by
 intro w bs h hne hf
 have hR:RN B w0 wb f:=@hRs f (Nat.le_refl f)
 have hcap:=hx.cap
 obtain⟨vs,hkl,hr,hg,htok,hs,hc⟩:=hx.opened
 rw[htok] at hf⊢
 clear htok hx
 obtain⟨y1,eks,nk1⟩:=hg.one (by decide)
 obtain rfl:kl=1:=by
  have:=congrArg List.length eks
  simp at this;omega
 have hk:∀x∈vs,noK (labOf x):=fun x hx=>by
  have h9:labOf x∈vs.map labOf:=List.mem_map.2 ⟨x,hx,rfl⟩
  rw[eks] at h9
  rw[List.mem_singleton.1 h9]
  exact nk1
 clear eks nk1
 obtain⟨k0,p0,a0,b0,s0,o0,l0,c0,g,X0,Y0,Z0,e0,y0,z0,rfl,W0,WO0,WR0,C0⟩:=kid_w hR hr hc (i:=0) (by omega) (fun x hx=>hk x (List.mem_of_getElem? hx))
 have e:asm 26 n m (name:ByteArray).data.toList (vs.map (kdAt f w0))=[42]::(Y0++[]):=by
  show [42]::pOp (kd (vs.map (kdAt f w0)) 0)=_;rw[e0,y0,List.append_nil]
 rw[e] at hf⊢
 clear e
 have q:=(Sw.start h hne hf).box (nodeC 26 pos n m name (.slice (some ⟨g,0,none⟩) 1 kc))
 have HWO0:Hid (Wc B w0 wb 115 (nodeC k0 p0 a0 b0 s0 (.slice o0 l0 c0)) Y0):=WO0
 have HC0:Hid (∀W,Below B w0 W→B≤W.heap.size→g<W.heap.size∧∀j,j<11→W.cell? ⟨g,0*11+j,none⟩=(nodeC k0 p0 a0 b0 s0 (.slice o0 l0 c0)).toList[j]?):=C0
 clear e0 y0 z0 W0 WO0 WR0 C0
 clear h hne hf hr hg hc hkl hcap hRs hk
 have F:=q.f1
 have lg:=(HC0.out _ q.wr.bel q.wr.base).1
 have G0:=kid0 (HC0.out _ q.wr.bel q.wr.base).2
 go_enter Tryz.func101,Tryz.ntmps101
 go_wp2_with (first
  |(go_at_call 33;refine q.put ?_;clear q F lg G0;intro w2 q;have F:=q.f1;have lg:=(HC0.out _ q.wr.bel q.wr.base).1;have G0:=kid0 (HC0.out _ q.wr.bel q.wr.base).2)
  |(go_at_call 115;refine q.go (fun a1 a2 a3=>HWO0.out a1 a2 a3) ?_;clear q F lg G0;intro w2 q;have F:=q.f1;have lg:=(HC0.out _ q.wr.bel q.wr.base).1;have G0:=kid0 (HC0.out _ q.wr.bel q.wr.base).2))
 all_goals(go_end0;exact q.done (by simp<;>rfl))
set_option maxRecDepth 100000 in
set_option maxHeartbeats 2000000 in
theorem e101_27 (hRs:∀g,g≤f→RN B w0 wb g) (ht:Tab B w0) (hx:Nw B w0 (f+1) (nodeC 27 pos n m name (.slice ko kl kc)).toList):Wc B w0 wb 101 (nodeC 27 pos n m name (.slice ko kl kc)) (tok (f+1) w0 (nodeC 27 pos n m name (.slice ko kl kc)).toList):=by
 intro w bs h hne hf
 have hR:RN B w0 wb f:=@hRs f (Nat.le_refl f)
 have hcap:=hx.cap
 obtain⟨vs,hkl,hr,hg,htok,hs,hc⟩:=hx.opened
 rw[htok] at hf⊢
 clear htok hx
 have h01:=(hg.lend rfl).1
 obtain⟨y1,eks,nk1⟩:=(hg.lend rfl).2
 obtain rfl:kl=1:=by
  have:=congrArg List.length eks
  simp at this;omega
 have hk:∀x∈vs,noK (labOf x):=fun x hx=>by
  have h9:labOf x∈vs.map labOf:=List.mem_map.2 ⟨x,hx,rfl⟩
  rw[eks] at h9
  rw[List.mem_singleton.1 h9]
  exact nk1
 clear eks nk1
 obtain⟨k0,p0,a0,b0,s0,o0,l0,c0,g,X0,Y0,Z0,e0,y0,z0,rfl,W0,WO0,WR0,C0⟩:=kid_w hR hr hc (i:=0) (by omega) (fun x hx=>hk x (List.mem_of_getElem? hx))
 have e:asm 27 n m (name:ByteArray).data.toList (vs.map (kdAt f w0))=[38]::(pFn n++(Y0++[])):=by
  show [38]::(pWhen (n==1) [[109,117,116]]++pOp (kd (vs.map (kdAt f w0)) 0))=_;rw[e0,y0,List.append_nil];rcases h01 with rfl|rfl<;>rfl
 rw[e] at hf⊢
 clear e
 have q:=(Sw.start h hne hf).box (nodeC 27 pos n m name (.slice (some ⟨g,0,none⟩) 1 kc))
 have HWO0:Hid (Wc B w0 wb 115 (nodeC k0 p0 a0 b0 s0 (.slice o0 l0 c0)) Y0):=WO0
 have HC0:Hid (∀W,Below B w0 W→B≤W.heap.size→g<W.heap.size∧∀j,j<11→W.cell? ⟨g,0*11+j,none⟩=(nodeC k0 p0 a0 b0 s0 (.slice o0 l0 c0)).toList[j]?):=C0
 clear e0 y0 z0 W0 WO0 WR0 C0
 clear h hne hf hr hg hc hkl hcap hRs hk h01
 have F:=q.f1
 have lg:=(HC0.out _ q.wr.bel q.wr.base).1
 have G0:=kid0 (HC0.out _ q.wr.bel q.wr.base).2
 go_enter Tryz.func101,Tryz.ntmps101
 go_wp2_with (first
  |(go_at_call 33;refine q.put ?_;clear q F lg G0;intro w2 q;have F:=q.f1;have lg:=(HC0.out _ q.wr.bel q.wr.base).1;have G0:=kid0 (HC0.out _ q.wr.bel q.wr.base).2)
  |(go_at_call 113;refine q.go (fun a1 a2 a3=>kind113 n a1 a2 a3) ?_;clear q F lg G0;intro w2 q;have F:=q.f1;have lg:=(HC0.out _ q.wr.bel q.wr.base).1;have G0:=kid0 (HC0.out _ q.wr.bel q.wr.base).2)
  |(go_at_call 115;refine q.go (fun a1 a2 a3=>HWO0.out a1 a2 a3) ?_;clear q F lg G0;intro w2 q;have F:=q.f1;have lg:=(HC0.out _ q.wr.bel q.wr.base).1;have G0:=kid0 (HC0.out _ q.wr.bel q.wr.base).2))
 all_goals(go_end0;exact q.done (by simp<;>rfl))
set_option maxRecDepth 100000 in
set_option maxHeartbeats 2000000 in
theorem e101_28 (hRs:∀g,g≤f→RN B w0 wb g) (ht:Tab B w0) (hx:Nw B w0 (f+1) (nodeC 28 pos n m name (.slice ko kl kc)).toList):Wc B w0 wb 101 (nodeC 28 pos n m name (.slice ko kl kc)) (tok (f+1) w0 (nodeC 28 pos n m name (.slice ko kl kc)).toList):=by
 intro w bs h hne hf
 have hR:RN B w0 wb f:=@hRs f (Nat.le_refl f)
 have hcap:=hx.cap
 obtain⟨vs,hkl,hr,hg,htok,hs,hc⟩:=hx.opened
 rw[htok] at hf⊢
 clear htok hx
 obtain⟨y1,eks,nk1⟩:=hg.one (by decide)
 obtain rfl:kl=1:=by
  have:=congrArg List.length eks
  simp at this;omega
 have hk:∀x∈vs,noK (labOf x):=fun x hx=>by
  have h9:labOf x∈vs.map labOf:=List.mem_map.2 ⟨x,hx,rfl⟩
  rw[eks] at h9
  rw[List.mem_singleton.1 h9]
  exact nk1
 clear eks nk1
 obtain⟨k0,p0,a0,b0,s0,o0,l0,c0,g,X0,Y0,Z0,e0,y0,z0,rfl,W0,WO0,WR0,C0⟩:=kid_w hR hr hc (i:=0) (by omega) (fun x hx=>hk x (List.mem_of_getElem? hx))
 have e:asm 28 n m (name:ByteArray).data.toList (vs.map (kdAt f w0))=tl name::(Y0++[]):=by
  show tl name::pOp (kd (vs.map (kdAt f w0)) 0)=_;rw[e0,y0,List.append_nil]
 rw[e] at hf⊢
 clear e
 have q:=(Sw.start h hne hf).box (nodeC 28 pos n m name (.slice (some ⟨g,0,none⟩) 1 kc))
 have HWO0:Hid (Wc B w0 wb 115 (nodeC k0 p0 a0 b0 s0 (.slice o0 l0 c0)) Y0):=WO0
 have HC0:Hid (∀W,Below B w0 W→B≤W.heap.size→g<W.heap.size∧∀j,j<11→W.cell? ⟨g,0*11+j,none⟩=(nodeC k0 p0 a0 b0 s0 (.slice o0 l0 c0)).toList[j]?):=C0
 clear e0 y0 z0 W0 WO0 WR0 C0
 clear h hne hf hr hg hc hkl hcap hRs hk
 have F:=q.f1
 have lg:=(HC0.out _ q.wr.bel q.wr.base).1
 have G0:=kid0 (HC0.out _ q.wr.bel q.wr.base).2
 go_enter Tryz.func101,Tryz.ntmps101
 go_wp2_with (first
  |(go_at_call 33;refine q.put ?_;clear q F lg G0;intro w2 q;have F:=q.f1;have lg:=(HC0.out _ q.wr.bel q.wr.base).1;have G0:=kid0 (HC0.out _ q.wr.bel q.wr.base).2)
  |(go_at_call 115;refine q.go (fun a1 a2 a3=>HWO0.out a1 a2 a3) ?_;clear q F lg G0;intro w2 q;have F:=q.f1;have lg:=(HC0.out _ q.wr.bel q.wr.base).1;have G0:=kid0 (HC0.out _ q.wr.bel q.wr.base).2))
 all_goals(go_end0;exact q.done (by simp<;>rfl))
set_option maxRecDepth 100000 in
set_option maxHeartbeats 2000000 in
theorem e101_29 (hRs:∀g,g≤f→RN B w0 wb g) (ht:Tab B w0) (hx:Nw B w0 (f+1) (nodeC 29 pos n m name (.slice ko kl kc)).toList):Wc B w0 wb 101 (nodeC 29 pos n m name (.slice ko kl kc)) (tok (f+1) w0 (nodeC 29 pos n m name (.slice ko kl kc)).toList):=by
 intro w bs h hne hf
 have hR:RN B w0 wb f:=@hRs f (Nat.le_refl f)
 have hcap:=hx.cap
 obtain⟨vs,hkl,hr,hg,htok,hs,hc⟩:=hx.opened
 rw[htok] at hf⊢
 clear htok hx
 obtain⟨y1,y2,eks,nk1,nk2⟩:=hg.two (by decide)
 have hl2:vs.length=2:=by have:=congrArg List.length eks;simpa using this
 have hk:∀x∈vs,noK (labOf x):=fun x hx=>by
  have h9:labOf x∈vs.map labOf:=List.mem_map.2 ⟨x,hx,rfl⟩
  rw[eks] at h9
  rcases List.mem_cons.1 h9 with h9|h9
  ·rw[h9];exact nk1
  ·rw[List.mem_singleton.1 h9];exact nk2
 clear eks nk1 nk2
 subst hkl
 have e:asm 29 n m (name:ByteArray).data.toList (vs.map (kdAt f w0))=pTwo (tl name) (vs.map (kdAt f w0))++[]:=by
  rw[List.append_nil];rfl
 rw[e] at hf⊢
 clear e
 have q:=(Sw.start h hne hf).box (nodeC 29 pos n m name (.slice ko vs.length kc))
 have HF:Hid (NR B w0 f ko vs∧(∀i x,vs[i]? =some x→∃g,ko=some ⟨g,0,none⟩∧g<B∧∀j,j<11→w0.cell? ⟨g,i*11+j,none⟩=x[j]?)∧2≤vs.length∧∀x∈vs,noK (labOf x)):=⟨hr,hc,by omega,hk⟩
 clear h hne hf hr hg hc hcap hRs hk hl2
 have F:=q.f1
 go_enter Tryz.func101,Tryz.ntmps101
 go_wp2_with (first
  |(go_at_call 116;refine q.go (fun a1 a2 a3=>two116 hR HF.out.1 HF.out.2.1 HF.out.2.2.1 HF.out.2.2.2 name a1 a2 a3) ?_;clear q F;intro w2 q;have F:=q.f1))
 all_goals(go_end0;exact q.done (by simp<;>rfl))
set_option maxRecDepth 100000 in
set_option maxHeartbeats 2000000 in
theorem e101_30 (hRs:∀g,g≤f→RN B w0 wb g) (ht:Tab B w0) (hx:Nw B w0 (f+1) (nodeC 30 pos n m name (.slice ko kl kc)).toList):Wc B w0 wb 101 (nodeC 30 pos n m name (.slice ko kl kc)) (tok (f+1) w0 (nodeC 30 pos n m name (.slice ko kl kc)).toList):=by
 intro w bs h hne hf
 have hR:RN B w0 wb f:=@hRs f (Nat.le_refl f)
 have hcap:=hx.cap
 obtain⟨vs,hkl,hr,hg,htok,hs,hc⟩:=hx.opened
 rw[htok] at hf⊢
 clear htok hx
 obtain⟨y1,y2,eks,nk1,nk2⟩:=hg.two (by decide)
 have hl2:vs.length=2:=by have:=congrArg List.length eks;simpa using this
 have hk:∀x∈vs,noK (labOf x):=fun x hx=>by
  have h9:labOf x∈vs.map labOf:=List.mem_map.2 ⟨x,hx,rfl⟩
  rw[eks] at h9
  rcases List.mem_cons.1 h9 with h9|h9
  ·rw[h9];exact nk1
  ·rw[List.mem_singleton.1 h9];exact nk2
 clear eks nk1 nk2
 subst hkl
 have e:asm 30 n m (name:ByteArray).data.toList (vs.map (kdAt f w0))=pTwo (tl ⟨#[38,38]⟩) (vs.map (kdAt f w0))++[]:=by
  rw[List.append_nil];rfl
 rw[e] at hf⊢
 clear e
 have q:=(Sw.start h hne hf).box (nodeC 30 pos n m name (.slice ko vs.length kc))
 have HF:Hid (NR B w0 f ko vs∧(∀i x,vs[i]? =some x→∃g,ko=some ⟨g,0,none⟩∧g<B∧∀j,j<11→w0.cell? ⟨g,i*11+j,none⟩=x[j]?)∧2≤vs.length∧∀x∈vs,noK (labOf x)):=⟨hr,hc,by omega,hk⟩
 clear h hne hf hr hg hc hcap hRs hk hl2
 have F:=q.f1
 go_enter Tryz.func101,Tryz.ntmps101
 go_wp2_with (first
  |(go_at_call 116;refine q.go (fun a1 a2 a3=>two116 hR HF.out.1 HF.out.2.1 HF.out.2.2.1 HF.out.2.2.2 ⟨#[38,38]⟩ a1 a2 a3) ?_;clear q F;intro w2 q;have F:=q.f1))
 all_goals(go_end0;exact q.done (by simp<;>rfl))
set_option maxRecDepth 100000 in
set_option maxHeartbeats 2000000 in
theorem e101_31 (hRs:∀g,g≤f→RN B w0 wb g) (ht:Tab B w0) (hx:Nw B w0 (f+1) (nodeC 31 pos n m name (.slice ko kl kc)).toList):Wc B w0 wb 101 (nodeC 31 pos n m name (.slice ko kl kc)) (tok (f+1) w0 (nodeC 31 pos n m name (.slice ko kl kc)).toList):=by
 intro w bs h hne hf
 have hR:RN B w0 wb f:=@hRs f (Nat.le_refl f)
 have hcap:=hx.cap
 obtain⟨vs,hkl,hr,hg,htok,hs,hc⟩:=hx.opened
 rw[htok] at hf⊢
 clear htok hx
 obtain⟨y1,y2,eks,nk1,nk2⟩:=hg.two (by decide)
 have hl2:vs.length=2:=by have:=congrArg List.length eks;simpa using this
 have hk:∀x∈vs,noK (labOf x):=fun x hx=>by
  have h9:labOf x∈vs.map labOf:=List.mem_map.2 ⟨x,hx,rfl⟩
  rw[eks] at h9
  rcases List.mem_cons.1 h9 with h9|h9
  ·rw[h9];exact nk1
  ·rw[List.mem_singleton.1 h9];exact nk2
 clear eks nk1 nk2
 subst hkl
 have e:asm 31 n m (name:ByteArray).data.toList (vs.map (kdAt f w0))=pTwo (tl ⟨#[124,124]⟩) (vs.map (kdAt f w0))++[]:=by
  rw[List.append_nil];rfl
 rw[e] at hf⊢
 clear e
 have q:=(Sw.start h hne hf).box (nodeC 31 pos n m name (.slice ko vs.length kc))
 have HF:Hid (NR B w0 f ko vs∧(∀i x,vs[i]? =some x→∃g,ko=some ⟨g,0,none⟩∧g<B∧∀j,j<11→w0.cell? ⟨g,i*11+j,none⟩=x[j]?)∧2≤vs.length∧∀x∈vs,noK (labOf x)):=⟨hr,hc,by omega,hk⟩
 clear h hne hf hr hg hc hcap hRs hk hl2
 have F:=q.f1
 go_enter Tryz.func101,Tryz.ntmps101
 go_wp2_with (first
  |(go_at_call 116;refine q.go (fun a1 a2 a3=>two116 hR HF.out.1 HF.out.2.1 HF.out.2.2.1 HF.out.2.2.2 ⟨#[124,124]⟩ a1 a2 a3) ?_;clear q F;intro w2 q;have F:=q.f1))
 all_goals(go_end0;exact q.done (by simp<;>rfl))
set_option maxRecDepth 100000 in
set_option maxHeartbeats 2000000 in
theorem e101_32 (hRs:∀g,g≤f→RN B w0 wb g) (ht:Tab B w0) (hx:Nw B w0 (f+1) (nodeC 32 pos n m name (.slice ko kl kc)).toList):Wc B w0 wb 101 (nodeC 32 pos n m name (.slice ko kl kc)) (tok (f+1) w0 (nodeC 32 pos n m name (.slice ko kl kc)).toList):=by
 intro w bs h hne hf
 have hR:RN B w0 wb f:=@hRs f (Nat.le_refl f)
 have hcap:=hx.cap
 obtain⟨vs,hkl,hr,hg,htok,hs,hc⟩:=hx.opened
 rw[htok] at hf⊢
 clear htok hx
 obtain⟨y1,y2,eks,nk1,nk2⟩:=hg.two (by decide)
 have hl2:vs.length=2:=by have:=congrArg List.length eks;simpa using this
 have hk:∀x∈vs,noK (labOf x):=fun x hx=>by
  have h9:labOf x∈vs.map labOf:=List.mem_map.2 ⟨x,hx,rfl⟩
  rw[eks] at h9
  rcases List.mem_cons.1 h9 with h9|h9
  ·rw[h9];exact nk1
  ·rw[List.mem_singleton.1 h9];exact nk2
 clear eks nk1 nk2
 subst hkl
 have e:asm 32 n m (name:ByteArray).data.toList (vs.map (kdAt f w0))=pTwo (tl ⟨#[61]⟩) (vs.map (kdAt f w0))++[]:=by
  rw[List.append_nil];rfl
 rw[e] at hf⊢
 clear e
 have q:=(Sw.start h hne hf).box (nodeC 32 pos n m name (.slice ko vs.length kc))
 have HF:Hid (NR B w0 f ko vs∧(∀i x,vs[i]? =some x→∃g,ko=some ⟨g,0,none⟩∧g<B∧∀j,j<11→w0.cell? ⟨g,i*11+j,none⟩=x[j]?)∧2≤vs.length∧∀x∈vs,noK (labOf x)):=⟨hr,hc,by omega,hk⟩
 clear h hne hf hr hg hc hcap hRs hk hl2
 have F:=q.f1
 go_enter Tryz.func101,Tryz.ntmps101
 go_wp2_with (first
  |(go_at_call 116;refine q.go (fun a1 a2 a3=>two116 hR HF.out.1 HF.out.2.1 HF.out.2.2.1 HF.out.2.2.2 ⟨#[61]⟩ a1 a2 a3) ?_;clear q F;intro w2 q;have F:=q.f1))
 all_goals(go_end0;exact q.done (by simp<;>rfl))
end
end Go.Proofs.YtagdihffmjopaaaGreatDoor
