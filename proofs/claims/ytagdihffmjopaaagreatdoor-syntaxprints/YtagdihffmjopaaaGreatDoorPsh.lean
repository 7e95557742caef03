/- The project's writer: expressions. -/
import Derived.Test.YtagdihffmjopaaaGreatDoorPta
namespace Go.Proofs.YtagdihffmjopaaaGreatDoor
set_option linter.all false
open Go.RowKit
section
variable{B:Nat} {w0 w:World} {wb f:Nat} {ts0:List (List UInt8)} {kind pos n m:Int} {name:ByteArray} {ko:Option Addr} {kl kc:Nat}
set_option maxRecDepth 100000 in
set_option maxHeartbeats 1000000 in
theorem p26_20 (hR:RP B w0 wb f) (hm:Mx B w0) (ht:Tab B w0) (hx:Nw B w0 (f+1) (nodeC 20 pos n m name (.slice ko kl kc)).toList):Wq B w0 wb 26 (nodeC 20 pos n m name (.slice ko kl kc)) (tok (f+1) w0 (nodeC 20 pos n m name (.slice ko kl kc)).toList):=by
 intro w ts0 h hf
 have hcap:=hx.cap
 obtain⟨vs,hkl,hr,hg,htok,hs,hc⟩:=hx.opened
 rw[htok] at hf⊢
 clear htok hx
 obtain⟨S,hS⟩:∃S:ByteArray,S=⟨(Lib.itoa n).toArray⟩:=⟨_,rfl⟩
 have I60:Hid (∀{W:World},Below B w0 W→Calls Tryz.prog 60 #[.int .i64 n] W (fun e w'=>e=.returned (.string S)∧Below W.heap.size W w')):=fun hb=>by rw[hS];exact itoa60 ht (by have:=(hg.eint rfl).1;omega) (hg.eint rfl).2 hb
 have e:asm 20 n m (name:ByteArray).data.toList (vs.map (kdAt f w0))=tl S::[]:=by
  show [Lib.itoa n]=_;rw[hS];rfl
 rw[e] at hf⊢
 clear e
 have q:=(Sp.start h hf).box (nodeC 20 pos n m name (.slice ko kl kc))
 clear h hf hr hg hc hkl hcap hS
 have F:=q.f1
 go_enter Tryz.func26,Tryz.ntmps26
 go_wp2_with (first
  |(go_at_call 47;refine q.put ?_;clear q F;intro w2 q;have F:=q.f1)
  |(go_at_call 60;refine(I60.out q.wr.bel).mono ?_;rintro e w1 ⟨rfl,hb1⟩;replace q:=q.below hb1;clear hb1 F;have F:=q.f1))
 all_goals(go_end0;exact q.done (by simp<;>rfl))
set_option maxRecDepth 100000 in
set_option maxHeartbeats 1000000 in
theorem p26_21 (hR:RP B w0 wb f) (hm:Mx B w0) (ht:Tab B w0) (hx:Nw B w0 (f+1) (nodeC 21 pos n m name (.slice ko kl kc)).toList):Wq B w0 wb 26 (nodeC 21 pos n m name (.slice ko kl kc)) (tok (f+1) w0 (nodeC 21 pos n m name (.slice ko kl kc)).toList):=by
 intro w ts0 h hf
 have hcap:=hx.cap
 obtain⟨vs,hkl,hr,hg,htok,hs,hc⟩:=hx.opened
 rw[htok] at hf⊢
 clear htok hx
 have hb01:=hg.ebool (.inl rfl)
 have e:asm 21 n m (name:ByteArray).data.toList (vs.map (kdAt f w0))=pBool n++[]:=by
  rw[List.append_nil];rfl
 rw[e] at hf⊢
 clear e
 have q:=(Sp.start h hf).box (nodeC 21 pos n m name (.slice ko kl kc))
 have HB:Hid (n=0∨n=1):=hb01
 clear h hf hr hg hc hkl hcap hb01
 have F:=q.f1
 go_enter Tryz.func26,Tryz.ntmps26
 go_wp2_with (first
  |(go_at_call 61;refine q.go (fun a1 a2=>boolean61 n HB.out a1 a2) ?_;clear q F;intro w2 q;have F:=q.f1))
 all_goals(go_end0;exact q.done (by simp<;>rfl))
set_option maxRecDepth 100000 in
set_option maxHeartbeats 1000000 in
theorem p26_22 (hR:RP B w0 wb f) (hm:Mx B w0) (ht:Tab B w0) (hx:Nw B w0 (f+1) (nodeC 22 pos n m name (.slice ko kl kc)).toList):Wq B w0 wb 26 (nodeC 22 pos n m name (.slice ko kl kc)) (tok (f+1) w0 (nodeC 22 pos n m name (.slice ko kl kc)).toList):=by
 intro w ts0 h hf
 have hcap:=hx.cap
 obtain⟨vs,hkl,hr,hg,htok,hs,hc⟩:=hx.opened
 rw[htok] at hf⊢
 clear htok hx
 have hn:=NK.of hr hg (by unfold kidK frK;omega)
 have e:asm 22 n m (name:ByteArray).data.toList (vs.map (kdAt f w0))=pRow [40] [41] (vs.map (kdAt f w0))++[]:=by
  rw[List.append_nil];rfl
 rw[e] at hf⊢
 clear e
 have q:=(Sp.start h hf).box (nodeC 22 pos n m name (.slice ko kl kc))
 have HL:Hid (NK B w0 f ko vs∧vs.length=kl):=⟨hn,hkl⟩
 clear h hf hr hg hc hkl hcap hn
 have F:=q.f1
 go_enter Tryz.func26,Tryz.ntmps26
 go_wp2_with (first
  |(go_at_call 58;refine q.go (fun a1 a2=>row58 hR ⟨#[40]⟩ ⟨#[41]⟩ HL.out.1 HL.out.2 a1 a2) ?_;clear q F;intro w2 q;have F:=q.f1))
 all_goals(go_end0;exact q.done (by simp<;>rfl))
set_option maxRecDepth 100000 in
set_option maxHeartbeats 1000000 in
theorem p26_23 (hR:RP B w0 wb f) (hm:Mx B w0) (ht:Tab B w0) (hx:Nw B w0 (f+1) (nodeC 23 pos n m name (.slice ko kl kc)).toList):Wq B w0 wb 26 (nodeC 23 pos n m name (.slice ko kl kc)) (tok (f+1) w0 (nodeC 23 pos n m name (.slice ko kl kc)).toList):=by
 intro w ts0 h hf
 have hcap:=hx.cap
 obtain⟨vs,hkl,hr,hg,htok,hs,hc⟩:=hx.opened
 rw[htok] at hf⊢
 clear htok hx
 have hn:=NK.of hr hg (by unfold kidK frK;omega)
 have e:asm 23 n m (name:ByteArray).data.toList (vs.map (kdAt f w0))=pth (tl name)::(pTys (vs.map (kdAt f w0))++[]):=by
  rw[List.append_nil];rfl
 rw[e] at hf⊢
 clear e
 have q:=(Sp.start h hf).box (nodeC 23 pos n m name (.slice ko kl kc))
 have HL:Hid (NK B w0 f ko vs∧vs.length=kl):=⟨hn,hkl⟩
 clear h hf hr hg hc hkl hcap hn
 have F:=q.f1
 go_enter Tryz.func26,Tryz.ntmps26
 go_wp2_with (first
  |(go_at_call 62;refine q.go (fun a1 a2=>typesBehind62 hR HL.out.1 HL.out.2 a1 a2) ?_;clear q F;intro w2 q;have F:=q.f1)
  |(go_at_call 48;refine q.go (fun a1 a2=>path48 hm hs a1 a2) ?_;clear q F;intro w2 q;have F:=q.f1))
 all_goals(go_end0;exact q.done (by simp<;>rfl))
set_option maxRecDepth 100000 in
set_option maxHeartbeats 1000000 in
theorem p26_24 (hR:RP B w0 wb f) (hm:Mx B w0) (ht:Tab B w0) (hx:Nw B w0 (f+1) (nodeC 24 pos n m name (.slice ko kl kc)).toList):Wq B w0 wb 26 (nodeC 24 pos n m name (.slice ko kl kc)) (tok (f+1) w0 (nodeC 24 pos n m name (.slice ko kl kc)).toList):=by
 intro w ts0 h hf
 have hcap:=hx.cap
 obtain⟨vs,hkl,hr,hg,htok,hs,hc⟩:=hx.opened
 rw[htok] at hf⊢
 clear htok hx
 have hn:=NK.of hr hg (by unfold kidK frK;omega)
 have:kl≠0:=by
  have:=(hg.call rfl).1
  intro h0
  rw[h0] at hkl
  rw[List.eq_nil_of_length_eq_zero hkl] at this
  exact this rfl
 obtain⟨l1,rfl⟩:∃l1,kl=l1+1:=⟨kl - 1,by omega⟩
 obtain⟨c1,rfl⟩:∃c1,kc=c1+1:=⟨kc - 1,by omega⟩
 obtain⟨k0,p0,a0,b0,s0,o0,l0,c0,g,X0,Y0,Z0,e0,y0,z0,rfl,W0,WO0,WR0,C0⟩:=kid_p hR hn hc (i:=0) (by omega)
 obtain⟨us,hus⟩:∃us,us=vs.drop 1:=⟨_,rfl⟩
 have hul:us.length=l1:=by rw[hus,List.length_drop];omega
 have em:(vs.map (kdAt f w0)).drop 1=us.map (kdAt f w0):=by rw[hus,List.map_drop]
 have hb:=hn.row.few
 rw[hkl] at hb
 have e:asm 24 n m (name:ByteArray).data.toList (vs.map (kdAt f w0))=Y0++(pRow [40] [41] (us.map (kdAt f w0))++[]):=by
  show pOp (kd (vs.map (kdAt f w0)) 0)++pRow [40] [41] ((vs.map (kdAt f w0)).drop 1)=_;rw[e0,y0,em,List.append_nil]
 rw[e] at hf⊢
 clear e
 have q:=(Sp.start h hf).box (nodeC 24 pos n m name (.slice (some ⟨g,0,none⟩) (l1+1) (c1+1)))
 have HWO0:Hid (Wq B w0 wb 63 (nodeC k0 p0 a0 b0 s0 (.slice o0 l0 c0)) Y0):=WO0
 have HC0:Hid (∀W,Below B w0 W→B≤W.heap.size→g<W.heap.size∧∀j,j<11→W.cell? ⟨g,0*11+j,none⟩=(nodeC k0 p0 a0 b0 s0 (.slice o0 l0 c0)).toList[j]?):=C0
 have HL:Hid (NK B w0 f (some ⟨g,11,none⟩) us∧us.length=l1):=⟨by have:=hn.drop 1;rw[←hus] at this;simpa using this,hul⟩
 have HZ:Hid (∀a,c1=0→NK B w0 f a us):=fun a hz=>by
  obtain rfl:us=[]:=List.eq_nil_of_length_eq_zero (by omega)
  exact NK.nil
 have hbI:(l1:Int)+1≤20000:=by omega
 have hcI:(l1:Int)≤(c1:Int):=by omega
 clear e0 y0 z0 W0 WO0 WR0 C0
 clear h hf hr hg hc hkl hcap hn hus hul em hb
 have F:=q.f1
 have lg:=(HC0.out _ q.wr.bel q.wr.base).1
 have G0:=kid0 (HC0.out _ q.wr.bel q.wr.base).2
 go_enter Tryz.func26,Tryz.ntmps26
 go_wp2_with (first
  |(go_at_call 58;refine q.go (fun a1 a2=>row58 hR ⟨#[40]⟩ ⟨#[41]⟩ (HZ.out _ (by first|rfl|assumption|omega)) HL.out.2 a1 a2) ?_;clear q F lg G0;intro w2 q;have F:=q.f1;have lg:=(HC0.out _ q.wr.bel q.wr.base).1;have G0:=kid0 (HC0.out _ q.wr.bel q.wr.base).2)
  |(go_at_call 58;refine q.go (fun a1 a2=>row58 hR ⟨#[40]⟩ ⟨#[41]⟩ HL.out.1 HL.out.2 a1 a2) ?_;clear q F lg G0;intro w2 q;have F:=q.f1;have lg:=(HC0.out _ q.wr.bel q.wr.base).1;have G0:=kid0 (HC0.out _ q.wr.bel q.wr.base).2)
  |(go_at_call 63;refine q.go (fun a1 a2=>HWO0.out a1 a2) ?_;clear q F lg G0;intro w2 q;have F:=q.f1;have lg:=(HC0.out _ q.wr.bel q.wr.base).1;have G0:=kid0 (HC0.out _ q.wr.bel q.wr.base).2))
 all_goals(go_end0;exact q.done (by simp<;>rfl))
set_option maxRecDepth 100000 in
set_option maxHeartbeats 1000000 in
theorem p64_25a (hR:RP B w0 wb f) (hm:Mx B w0) (ht:Tab B w0) (hnm:(name.data.toList.length !=0)=false) (hx:Nw B w0 (f+1) (nodeC 25 pos n m name (.slice ko kl kc)).toList):Wq B w0 wb 64 (nodeC 25 pos n m name (.slice ko kl kc)) (tok (f+1) w0 (nodeC 25 pos n m name (.slice ko kl kc)).toList):=by
 intro w ts0 h hf
 have hcap:=hx.cap
 obtain⟨vs,hkl,hr,hg,htok,hs,hc⟩:=hx.opened
 rw[htok] at hf⊢
 clear htok hx
 have hn:=NK.of hr hg (by unfold kidK frK;omega)
 obtain rfl:kl=1:=by
  obtain⟨y,eks,-⟩:=(hg.part rfl).2
  have:=congrArg List.length eks
  simp at this;omega
 replace hnm:(name.data.toList.length !=0)=false:=hnm
 obtain rfl:=nm_empty hnm
 obtain⟨k0,p0,a0,b0,s0,o0,l0,c0,g,X0,Y0,Z0,e0,y0,z0,rfl,W0,WO0,WR0,C0⟩:=kid_p hR hn hc (i:=0) (by omega)
 obtain⟨S,hS⟩:∃S:ByteArray,S=⟨(Lib.itoa n).toArray⟩:=⟨_,rfl⟩
 have I60:Hid (∀{W:World},Below B w0 W→Calls Tryz.prog 60 #[.int .i64 n] W (fun e w'=>e=.returned (.string S)∧Below W.heap.size W w')):=fun hb=>by rw[hS];exact itoa60 ht (by have:=(hg.part rfl).1.1;omega) (hg.part rfl).1.2 hb
 have e:asm 25 n m (⟨#[]⟩:ByteArray).data.toList (vs.map (kdAt f w0))=Y0++([46]::tl S::[]):=by
  show pOp (kd (vs.map (kdAt f w0)) 0)++[[46],Lib.itoa n]=_;rw[e0,y0,hS];rfl
 rw[e] at hf⊢
 clear e
 have q:=(Sp.start h hf).box (nodeC 25 pos n m ⟨#[]⟩ (.slice (some ⟨g,0,none⟩) 1 kc))
 have HWO0:Hid (Wq B w0 wb 63 (nodeC k0 p0 a0 b0 s0 (.slice o0 l0 c0)) Y0):=WO0
 have HC0:Hid (∀W,Below B w0 W→B≤W.heap.size→g<W.heap.size∧∀j,j<11→W.cell? ⟨g,0*11+j,none⟩=(nodeC k0 p0 a0 b0 s0 (.slice o0 l0 c0)).toList[j]?):=C0
 clear e0 y0 z0 W0 WO0 WR0 C0
 clear h hf hr hg hc hkl hcap hn hnm hS
 have F:=q.f1
 have lg:=(HC0.out _ q.wr.bel q.wr.base).1
 have G0:=kid0 (HC0.out _ q.wr.bel q.wr.base).2
 go_enter Tryz.func64,Tryz.ntmps64
 go_wp2_with (first
  |(go_at_call 47;refine q.put ?_;clear q F lg G0;intro w2 q;have F:=q.f1;have lg:=(HC0.out _ q.wr.bel q.wr.base).1;have G0:=kid0 (HC0.out _ q.wr.bel q.wr.base).2)
  |(go_at_call 63;refine q.go (fun a1 a2=>HWO0.out a1 a2) ?_;clear q F lg G0;intro w2 q;have F:=q.f1;have lg:=(HC0.out _ q.wr.bel q.wr.base).1;have G0:=kid0 (HC0.out _ q.wr.bel q.wr.base).2)
  |(go_at_call 60;refine(I60.out q.wr.bel).mono ?_;rintro e w1 ⟨rfl,hb1⟩;replace q:=q.below hb1;clear hb1 F lg G0;have F:=q.f1;have lg:=(HC0.out _ q.wr.bel q.wr.base).1;have G0:=kid0 (HC0.out _ q.wr.bel q.wr.base).2))
 all_goals(go_end0;exact q.done (by simp<;>rfl))
set_option maxRecDepth 100000 in
set_option maxHeartbeats 1000000 in
theorem p64_25b (hR:RP B w0 wb f) (hm:Mx B w0) (ht:Tab B w0) (hnm:(name.data.toList.length !=0)=true) (hx:Nw B w0 (f+1) (nodeC 25 pos n m name (.slice ko kl kc)).toList):Wq B w0 wb 64 (nodeC 25 pos n m name (.slice ko kl kc)) (tok (f+1) w0 (nodeC 25 pos n m name (.slice ko kl kc)).toList):=by
 intro w ts0 h hf
 have hcap:=hx.cap
 obtain⟨vs,hkl,hr,hg,htok,hs,hc⟩:=hx.opened
 rw[htok] at hf⊢
 clear htok hx
 have hn:=NK.of hr hg (by unfold kidK frK;omega)
 obtain rfl:kl=1:=by
  obtain⟨y,eks,-⟩:=(hg.part rfl).2
  have:=congrArg List.length eks
  simp at this;omega
 replace hnm:(name.data.toList.length !=0)=true:=hnm
 have hne:=nm_some hnm
 obtain⟨k0,p0,a0,b0,s0,o0,l0,c0,g,X0,Y0,Z0,e0,y0,z0,rfl,W0,WO0,WR0,C0⟩:=kid_p hR hn hc (i:=0) (by omega)
 have e:asm 25 n m (name:ByteArray).data.toList (vs.map (kdAt f w0))=Y0++([46]::tl name::[]):=by
  show pOp (kd (vs.map (kdAt f w0)) 0)++[[46],if(tl name).length=0 then Lib.itoa n else tl name]=_;rw[e0,y0,if_neg (by simpa[tl] using hnm)]
 rw[e] at hf⊢
 clear e
 have q:=(Sp.start h hf).box (nodeC 25 pos n m name (.slice (some ⟨g,0,none⟩) 1 kc))
 have HWO0:Hid (Wq B w0 wb 63 (nodeC k0 p0 a0 b0 s0 (.slice o0 l0 c0)) Y0):=WO0
 have HC0:Hid (∀W,Below B w0 W→B≤W.heap.size→g<W.heap.size∧∀j,j<11→W.cell? ⟨g,0*11+j,none⟩=(nodeC k0 p0 a0 b0 s0 (.slice o0 l0 c0)).toList[j]?):=C0
 clear e0 y0 z0 W0 WO0 WR0 C0
 clear h hf hr hg hc hkl hcap hn hnm
 have F:=q.f1
 have lg:=(HC0.out _ q.wr.bel q.wr.base).1
 have G0:=kid0 (HC0.out _ q.wr.bel q.wr.base).2
 go_enter Tryz.func64,Tryz.ntmps64
 go_wp2_with (first
  |(go_at_call 47;refine q.put ?_;clear q F lg G0;intro w2 q;have F:=q.f1;have lg:=(HC0.out _ q.wr.bel q.wr.base).1;have G0:=kid0 (HC0.out _ q.wr.bel q.wr.base).2)
  |(go_at_call 63;refine q.go (fun a1 a2=>HWO0.out a1 a2) ?_;clear q F lg G0;intro w2 q;have F:=q.f1;have lg:=(HC0.out _ q.wr.bel q.wr.base).1;have G0:=kid0 (HC0.out _ q.wr.bel q.wr.base).2))
 all_goals(go_end0;exact q.done (by simp<;>rfl))
set_option maxRecDepth 100000 in
set_option maxHeartbeats 1000000 in
theorem d26_25 {T:List (List UInt8)} (HP:Wq B w0 wb 64 (nodeC 25 pos n m name (.slice ko kl kc)) T):Wq B w0 wb 26 (nodeC 25 pos n m name (.slice ko kl kc)) T:=by
 intro w ts0 h hf
 have q:=((Sp.start h hf).as (rest':=T++[]) (by simp)).box (nodeC 25 pos n m name (.slice ko kl kc))
 have H:Hid (Wq B w0 wb 64 (nodeC 25 pos n m name (.slice ko kl kc)) T):=HP
 clear h hf HP
 have F:=q.f1
 go_enter Tryz.func26,Tryz.ntmps26
 go_wp2_with (go_at_call 64;refine q.go (fun a1 a2=>H.out a1 a2) ?_;clear q F;intro w2 q;have F:=q.f1)
 go_end0
 exact q.done (by simp)
set_option maxRecDepth 100000 in
set_option maxHeartbeats 1000000 in
theorem p65_26 (hR:RP B w0 wb f) (hm:Mx B w0) (ht:Tab B w0) (hx:Nw B w0 (f+1) (nodeC 26 pos n m name (.slice ko kl kc)).toList):Wq B w0 wb 65 (nodeC 26 pos n m name (.slice ko kl kc)) (tok (f+1) w0 (nodeC 26 pos n m name (.slice ko kl kc)).toList):=by
 intro w ts0 h hf
 have hcap:=hx.cap
 obtain⟨vs,hkl,hr,hg,htok,hs,hc⟩:=hx.opened
 rw[htok] at hf⊢
 clear htok hx
 have hn:=NK.of hr hg (by unfold kidK frK;omega)
 obtain rfl:kl=1:=by
  obtain⟨y,eks,-⟩:=hg.one (by decide)
  have:=congrArg List.length eks
  simp at this;omega
 obtain⟨k0,p0,a0,b0,s0,o0,l0,c0,g,X0,Y0,Z0,e0,y0,z0,rfl,W0,WO0,WR0,C0⟩:=kid_p hR hn hc (i:=0) (by omega)
 have e:asm 26 n m (name:ByteArray).data.toList (vs.map (kdAt f w0))=[42]::(Y0++[]):=by
  show [42]::pOp (kd (vs.map (kdAt f w0)) 0)=_;rw[e0,y0,List.append_nil]
 rw[e] at hf⊢
 clear e
 have q:=(Sp.start h hf).box (nodeC 26 pos n m name (.slice (some ⟨g,0,none⟩) 1 kc))
 have HWO0:Hid (Wq B w0 wb 63 (nodeC k0 p0 a0 b0 s0 (.slice o0 l0 c0)) Y0):=WO0
 have HC0:Hid (∀W,Below B w0 W→B≤W.heap.size→g<W.heap.size∧∀j,j<11→W.cell? ⟨g,0*11+j,none⟩=(nodeC k0 p0 a0 b0 s0 (.slice o0 l0 c0)).toList[j]?):=C0
 clear e0 y0 z0 W0 WO0 WR0 C0
 clear h hf hr hg hc hkl hcap hn
 have F:=q.f1
 have lg:=(HC0.out _ q.wr.bel q.wr.base).1
 have G0:=kid0 (HC0.out _ q.wr.bel q.wr.base).2
 go_enter Tryz.func65,Tryz.ntmps65
 go_wp2_with (first
  |(go_at_call 47;refine q.put ?_;clear q F lg G0;intro w2 q;have F:=q.f1;have lg:=(HC0.out _ q.wr.bel q.wr.base).1;have G0:=kid0 (HC0.out _ q.wr.bel q.wr.base).2)
  |(go_at_call 63;refine q.go (fun a1 a2=>HWO0.out a1 a2) ?_;clear q F lg G0;intro w2 q;have F:=q.f1;have lg:=(HC0.out _ q.wr.bel q.wr.base).1;have G0:=kid0 (HC0.out _ q.wr.bel q.wr.base).2))
 all_goals(go_end0;exact q.done (by simp<;>rfl))
set_option maxRecDepth 100000 in
set_option maxHeartbeats 1000000 in
theorem p65_27 (hR:RP B w0 wb f) (hm:Mx B w0) (ht:Tab B w0) (hx:Nw B w0 (f+1) (nodeC 27 pos n m name (.slice ko kl kc)).toList):Wq B w0 wb 65 (nodeC 27 pos n m name (.slice ko kl kc)) (tok (f+1) w0 (nodeC 27 pos n m name (.slice ko kl kc)).toList):=by
 intro w ts0 h hf
 have hcap:=hx.cap
 obtain⟨vs,hkl,hr,hg,htok,hs,hc⟩:=hx.opened
 rw[htok] at hf⊢
 clear htok hx
 have hn:=NK.of hr hg (by unfold kidK frK;omega)
 obtain rfl:kl=1:=by
  obtain⟨y,eks,-⟩:=(hg.lend rfl).2
  have:=congrArg List.length eks
  simp at this;omega
 obtain⟨k0,p0,a0,b0,s0,o0,l0,c0,g,X0,Y0,Z0,e0,y0,z0,rfl,W0,WO0,WR0,C0⟩:=kid_p hR hn hc (i:=0) (by omega)
 have e:asm 27 n m (name:ByteArray).data.toList (vs.map (kdAt f w0))=[38]::(pWhen (n==1) [[109,117,116]]++(Y0++[])):=by
  show [38]::(pWhen (n==1) [[109,117,116]]++pOp (kd (vs.map (kdAt f w0)) 0))=_;rw[e0,y0,List.append_nil]
 rw[e] at hf⊢
 clear e
 have q:=(Sp.start h hf).box (nodeC 27 pos n m name (.slice (some ⟨g,0,none⟩) 1 kc))
 have HWO0:Hid (Wq B w0 wb 63 (nodeC k0 p0 a0 b0 s0 (.slice o0 l0 c0)) Y0):=WO0
 have HC0:Hid (∀W,Below B w0 W→B≤W.heap.size→g<W.heap.size∧∀j,j<11→W.cell? ⟨g,0*11+j,none⟩=(nodeC k0 p0 a0 b0 s0 (.slice o0 l0 c0)).toList[j]?):=C0
 clear e0 y0 z0 W0 WO0 WR0 C0
 clear h hf hr hg hc hkl hcap hn
 have F:=q.f1
 have lg:=(HC0.out _ q.wr.bel q.wr.base).1
 have G0:=kid0 (HC0.out _ q.wr.bel q.wr.base).2
 go_enter Tryz.func65,Tryz.ntmps65
 go_wp2_with (first
  |(go_at_call 47;refine q.put ?_;clear q F lg G0;intro w2 q;have F:=q.f1;have lg:=(HC0.out _ q.wr.bel q.wr.base).1;have G0:=kid0 (HC0.out _ q.wr.bel q.wr.base).2)
  |(go_at_call 56;refine q.when (ss:=[⟨#[109,117,116]⟩]) ?_;clear q F lg G0;intro w2 q;have F:=q.f1;have lg:=(HC0.out _ q.wr.bel q.wr.base).1;have G0:=kid0 (HC0.out _ q.wr.bel q.wr.base).2)
  |(go_at_call 63;refine q.go (fun a1 a2=>HWO0.out a1 a2) ?_;clear q F lg G0;intro w2 q;have F:=q.f1;have lg:=(HC0.out _ q.wr.bel q.wr.base).1;have G0:=kid0 (HC0.out _ q.wr.bel q.wr.base).2))
 all_goals(go_end0;exact q.done (by simp<;>rfl))
set_option maxRecDepth 100000 in
set_option maxHeartbeats 1000000 in
theorem p65_28 (hR:RP B w0 wb f) (hm:Mx B w0) (ht:Tab B w0) (hx:Nw B w0 (f+1) (nodeC 28 pos n m name (.slice ko kl kc)).toList):Wq B w0 wb 65 (nodeC 28 pos n m name (.slice ko kl kc)) (tok (f+1) w0 (nodeC 28 pos n m name (.slice ko kl kc)).toList):=by
 intro w ts0 h hf
 have hcap:=hx.cap
 obtain⟨vs,hkl,hr,hg,htok,hs,hc⟩:=hx.opened
 rw[htok] at hf⊢
 clear htok hx
 have hn:=NK.of hr hg (by unfold kidK frK;omega)
 obtain rfl:kl=1:=by
  obtain⟨y,eks,-⟩:=hg.one (by decide)
  have:=congrArg List.length eks
  simp at this;omega
 obtain⟨k0,p0,a0,b0,s0,o0,l0,c0,g,X0,Y0,Z0,e0,y0,z0,rfl,W0,WO0,WR0,C0⟩:=kid_p hR hn hc (i:=0) (by omega)
 have e:asm 28 n m (name:ByteArray).data.toList (vs.map (kdAt f w0))=tl name::(Y0++[]):=by
  show tl name::pOp (kd (vs.map (kdAt f w0)) 0)=_;rw[e0,y0,List.append_nil]
 rw[e] at hf⊢
 clear e
 have q:=(Sp.start h hf).box (nodeC 28 pos n m name (.slice (some ⟨g,0,none⟩) 1 kc))
 have HWO0:Hid (Wq B w0 wb 63 (nodeC k0 p0 a0 b0 s0 (.slice o0 l0 c0)) Y0):=WO0
 have HC0:Hid (∀W,Below B w0 W→B≤W.heap.size→g<W.heap.size∧∀j,j<11→W.cell? ⟨g,0*11+j,none⟩=(nodeC k0 p0 a0 b0 s0 (.slice o0 l0 c0)).toList[j]?):=C0
 clear e0 y0 z0 W0 WO0 WR0 C0
 clear h hf hr hg hc hkl hcap hn
 have F:=q.f1
 have lg:=(HC0.out _ q.wr.bel q.wr.base).1
 have G0:=kid0 (HC0.out _ q.wr.bel q.wr.base).2
 go_enter Tryz.func65,Tryz.ntmps65
 go_wp2_with (first
  |(go_at_call 47;refine q.put ?_;clear q F lg G0;intro w2 q;have F:=q.f1;have lg:=(HC0.out _ q.wr.bel q.wr.base).1;have G0:=kid0 (HC0.out _ q.wr.bel q.wr.base).2)
  |(go_at_call 63;refine q.go (fun a1 a2=>HWO0.out a1 a2) ?_;clear q F lg G0;intro w2 q;have F:=q.f1;have lg:=(HC0.out _ q.wr.bel q.wr.base).1;have G0:=kid0 (HC0.out _ q.wr.bel q.wr.base).2))
 all_goals(go_end0;exact q.done (by simp<;>rfl))
set_option maxRecDepth 100000 in
set_option maxHeartbeats 1000000 in
theorem d26_26 {T:List (List UInt8)} (HP:Wq B w0 wb 65 (nodeC 26 pos n m name (.slice ko kl kc)) T):Wq B w0 wb 26 (nodeC 26 pos n m name (.slice ko kl kc)) T:=by
 intro w ts0 h hf
 have q:=((Sp.start h hf).as (rest':=T++[]) (by simp)).box (nodeC 26 pos n m name (.slice ko kl kc))
 have H:Hid (Wq B w0 wb 65 (nodeC 26 pos n m name (.slice ko kl kc)) T):=HP
 clear h hf HP
 have F:=q.f1
 go_enter Tryz.func26,Tryz.ntmps26
 go_wp2_with (go_at_call 65;refine q.go (fun a1 a2=>H.out a1 a2) ?_;clear q F;intro w2 q;have F:=q.f1)
 go_end0
 exact q.done (by simp)
set_option maxRecDepth 100000 in
set_option maxHeartbeats 1000000 in
theorem d26_27 {T:List (List UInt8)} (HP:Wq B w0 wb 65 (nodeC 27 pos n m name (.slice ko kl kc)) T):Wq B w0 wb 26 (nodeC 27 pos n m name (.slice ko kl kc)) T:=by
 intro w ts0 h hf
 have q:=((Sp.start h hf).as (rest':=T++[]) (by simp)).box (nodeC 27 pos n m name (.slice ko kl kc))
 have H:Hid (Wq B w0 wb 65 (nodeC 27 pos n m name (.slice ko kl kc)) T):=HP
 clear h hf HP
 have F:=q.f1
 go_enter Tryz.func26,Tryz.ntmps26
 go_wp2_with (go_at_call 65;refine q.go (fun a1 a2=>H.out a1 a2) ?_;clear q F;intro w2 q;have F:=q.f1)
 go_end0
 exact q.done (by simp)
set_option maxRecDepth 100000 in
set_option maxHeartbeats 1000000 in
theorem d26_28 {T:List (List UInt8)} (HP:Wq B w0 wb 65 (nodeC 28 pos n m name (.slice ko kl kc)) T):Wq B w0 wb 26 (nodeC 28 pos n m name (.slice ko kl kc)) T:=by
 intro w ts0 h hf
 have q:=((Sp.start h hf).as (rest':=T++[]) (by simp)).box (nodeC 28 pos n m name (.slice ko kl kc))
 have H:Hid (Wq B w0 wb 65 (nodeC 28 pos n m name (.slice ko kl kc)) T):=HP
 clear h hf HP
 have F:=q.f1
 go_enter Tryz.func26,Tryz.ntmps26
 go_wp2_with (go_at_call 65;refine q.go (fun a1 a2=>H.out a1 a2) ?_;clear q F;intro w2 q;have F:=q.f1)
 go_end0
 exact q.done (by simp)
set_option maxRecDepth 100000 in
theorem sign66_29:Calls Tryz.prog 66 #[.agg (nodeC 29 pos n m name (.slice ko kl kc))] w (fun e w'=>e=.returned (.string name)∧Below w.heap.size w w'):=by
 have F:Hid (Below w.heap.size w w):=Below.refl _ _
 go_enter Tryz.func66,Tryz.ntmps66
 go_wp2_with fail
 exact bodyPost_ret (v:=.string name) (by simp[results,Tryz.results66,go_sem]) rfl ⟨rfl,(F.out.alloc (Nat.le_refl _) _)⟩
set_option maxRecDepth 100000 in
set_option maxHeartbeats 1000000 in
theorem p26_29 (hR:RP B w0 wb f) (hm:Mx B w0) (ht:Tab B w0) (hx:Nw B w0 (f+1) (nodeC 29 pos n m name (.slice ko kl kc)).toList):Wq B w0 wb 26 (nodeC 29 pos n m name (.slice ko kl kc)) (tok (f+1) w0 (nodeC 29 pos n m name (.slice ko kl kc)).toList):=by
 intro w ts0 h hf
 have hcap:=hx.cap
 obtain⟨vs,hkl,hr,hg,htok,hs,hc⟩:=hx.opened
 rw[htok] at hf⊢
 clear htok hx
 have hn:=NK.of hr hg (by unfold kidK frK;omega)
 obtain rfl:kl=2:=by
  obtain⟨y,z,eks,-,-⟩:=hg.two (by decide)
  have:=congrArg List.length eks
  simp at this;omega
 obtain⟨k0,p0,a0,b0,s0,o0,l0,c0,g,X0,Y0,Z0,e0,y0,z0,rfl,W0,WO0,WR0,C0⟩:=kid_p hR hn hc (i:=0) (by omega)
 obtain⟨k1,p1,a1,b1,s1,o1,l1,c1,g1,X1,Y1,Z1,e1,y1,z1,eg1,W1,WO1,WR1,C1⟩:=kid_p hR hn hc (i:=1) (by omega)
 obtain rfl:g=g1:=by simpa using eg1
 have e:asm 29 n m (name:ByteArray).data.toList (vs.map (kdAt f w0))=Y0++(tl name::(Y1++[])):=by
  show pOp (kd (vs.map (kdAt f w0)) 0)++(tl name::pOp (kd (vs.map (kdAt f w0)) 1))=_;rw[e0,e1,y0,y1,List.append_nil]
 rw[e] at hf⊢
 clear e
 have q:=(Sp.start h hf).box (nodeC 29 pos n m name (.slice (some ⟨g,0,none⟩) 2 kc))
 have HWO0:Hid (Wq B w0 wb 63 (nodeC k0 p0 a0 b0 s0 (.slice o0 l0 c0)) Y0):=WO0
 have HC0:Hid (∀W,Below B w0 W→B≤W.heap.size→g<W.heap.size∧∀j,j<11→W.cell? ⟨g,0*11+j,none⟩=(nodeC k0 p0 a0 b0 s0 (.slice o0 l0 c0)).toList[j]?):=C0
 have HWO1:Hid (Wq B w0 wb 63 (nodeC k1 p1 a1 b1 s1 (.slice o1 l1 c1)) Y1):=WO1
 have HC1:Hid (∀W,Below B w0 W→B≤W.heap.size→g<W.heap.size∧∀j,j<11→W.cell? ⟨g,1*11+j,none⟩=(nodeC k1 p1 a1 b1 s1 (.slice o1 l1 c1)).toList[j]?):=C1
 clear e0 y0 z0 W0 WO0 WR0 C0
 clear e1 y1 z1 W1 WO1 WR1 C1 eg1
 clear h hf hr hg hc hkl hcap hn
 have F:=q.f1
 have lg:=(HC0.out _ q.wr.bel q.wr.base).1
 have G0:=kid0 (HC0.out _ q.wr.bel q.wr.base).2
 have G1:=kid1 (HC1.out _ q.wr.bel q.wr.base).2
 go_enter Tryz.func26,Tryz.ntmps26
 go_wp2_with (first
  |(go_at_call 63;refine q.go (fun a1 a2=>HWO1.out a1 a2) ?_;clear q F lg G0 G1;intro w2 q;have F:=q.f1;have lg:=(HC0.out _ q.wr.bel q.wr.base).1;have G0:=kid0 (HC0.out _ q.wr.bel q.wr.base).2;have G1:=kid1 (HC1.out _ q.wr.bel q.wr.base).2)
  |(go_at_call 47;refine q.put (s:=name) ?_;clear q F lg G0 G1;intro w2 q;have F:=q.f1;have lg:=(HC0.out _ q.wr.bel q.wr.base).1;have G0:=kid0 (HC0.out _ q.wr.bel q.wr.base).2;have G1:=kid1 (HC1.out _ q.wr.bel q.wr.base).2)
  |(go_at_call 63;refine q.go (fun a1 a2=>HWO0.out a1 a2) ?_;clear q F lg G0 G1;intro w2 q;have F:=q.f1;have lg:=(HC0.out _ q.wr.bel q.wr.base).1;have G0:=kid0 (HC0.out _ q.wr.bel q.wr.base).2;have G1:=kid1 (HC1.out _ q.wr.bel q.wr.base).2)
  |(go_at_call 66;refine sign66_29.mono ?_;rintro e w1 ⟨rfl,hb1⟩;replace q:=q.below hb1;clear hb1 F lg G0 G1;have F:=q.f1;have lg:=(HC0.out _ q.wr.bel q.wr.base).1;have G0:=kid0 (HC0.out _ q.wr.bel q.wr.base).2;have G1:=kid1 (HC1.out _ q.wr.bel q.wr.base).2))
 all_goals(go_end0;exact q.done (by simp<;>rfl))
set_option maxRecDepth 100000 in
theorem sign66_30:Calls Tryz.prog 66 #[.agg (nodeC 30 pos n m name (.slice ko kl kc))] w (fun e w'=>e=.returned (.string ⟨#[38,38]⟩)∧Below w.heap.size w w'):=by
 have F:Hid (Below w.heap.size w w):=Below.refl _ _
 go_enter Tryz.func66,Tryz.ntmps66
 go_wp2_with fail
 exact bodyPost_ret (v:=.string ⟨#[38,38]⟩) (by simp[results,Tryz.results66,go_sem]) rfl ⟨rfl,(F.out.alloc (Nat.le_refl _) _)⟩
set_option maxRecDepth 100000 in
set_option maxHeartbeats 1000000 in
theorem p26_30 (hR:RP B w0 wb f) (hm:Mx B w0) (ht:Tab B w0) (hx:Nw B w0 (f+1) (nodeC 30 pos n m name (.slice ko kl kc)).toList):Wq B w0 wb 26 (nodeC 30 pos n m name (.slice ko kl kc)) (tok (f+1) w0 (nodeC 30 pos n m name (.slice ko kl kc)).toList):=by
 intro w ts0 h hf
 have hcap:=hx.cap
 obtain⟨vs,hkl,hr,hg,htok,hs,hc⟩:=hx.opened
 rw[htok] at hf⊢
 clear htok hx
 have hn:=NK.of hr hg (by unfold kidK frK;omega)
 obtain rfl:kl=2:=by
  obtain⟨y,z,eks,-,-⟩:=hg.two (by decide)
  have:=congrArg List.length eks
  simp at this;omega
 obtain⟨k0,p0,a0,b0,s0,o0,l0,c0,g,X0,Y0,Z0,e0,y0,z0,rfl,W0,WO0,WR0,C0⟩:=kid_p hR hn hc (i:=0) (by omega)
 obtain⟨k1,p1,a1,b1,s1,o1,l1,c1,g1,X1,Y1,Z1,e1,y1,z1,eg1,W1,WO1,WR1,C1⟩:=kid_p hR hn hc (i:=1) (by omega)
 obtain rfl:g=g1:=by simpa using eg1
 have e:asm 30 n m (name:ByteArray).data.toList (vs.map (kdAt f w0))=Y0++(tl ⟨#[38,38]⟩::(Y1++[])):=by
  show pOp (kd (vs.map (kdAt f w0)) 0)++(tl ⟨#[38,38]⟩::pOp (kd (vs.map (kdAt f w0)) 1))=_;rw[e0,e1,y0,y1,List.append_nil]
 rw[e] at hf⊢
 clear e
 have q:=(Sp.start h hf).box (nodeC 30 pos n m name (.slice (some ⟨g,0,none⟩) 2 kc))
 have HWO0:Hid (Wq B w0 wb 63 (nodeC k0 p0 a0 b0 s0 (.slice o0 l0 c0)) Y0):=WO0
 have HC0:Hid (∀W,Below B w0 W→B≤W.heap.size→g<W.heap.size∧∀j,j<11→W.cell? ⟨g,0*11+j,none⟩=(nodeC k0 p0 a0 b0 s0 (.slice o0 l0 c0)).toList[j]?):=C0
 have HWO1:Hid (Wq B w0 wb 63 (nodeC k1 p1 a1 b1 s1 (.slice o1 l1 c1)) Y1):=WO1
 have HC1:Hid (∀W,Below B w0 W→B≤W.heap.size→g<W.heap.size∧∀j,j<11→W.cell? ⟨g,1*11+j,none⟩=(nodeC k1 p1 a1 b1 s1 (.slice o1 l1 c1)).toList[j]?):=C1
 clear e0 y0 z0 W0 WO0 WR0 C0
 clear e1 y1 z1 W1 WO1 WR1 C1 eg1
 clear h hf hr hg hc hkl hcap hn
 have F:=q.f1
 have lg:=(HC0.out _ q.wr.bel q.wr.base).1
 have G0:=kid0 (HC0.out _ q.wr.bel q.wr.base).2
 have G1:=kid1 (HC1.out _ q.wr.bel q.wr.base).2
 go_enter Tryz.func26,Tryz.ntmps26
 go_wp2_with (first
  |(go_at_call 63;refine q.go (fun a1 a2=>HWO1.out a1 a2) ?_;clear q F lg G0 G1;intro w2 q;have F:=q.f1;have lg:=(HC0.out _ q.wr.bel q.wr.base).1;have G0:=kid0 (HC0.out _ q.wr.bel q.wr.base).2;have G1:=kid1 (HC1.out _ q.wr.bel q.wr.base).2)
  |(go_at_call 47;refine q.put (s:=⟨#[38,38]⟩) ?_;clear q F lg G0 G1;intro w2 q;have F:=q.f1;have lg:=(HC0.out _ q.wr.bel q.wr.base).1;have G0:=kid0 (HC0.out _ q.wr.bel q.wr.base).2;have G1:=kid1 (HC1.out _ q.wr.bel q.wr.base).2)
  |(go_at_call 63;refine q.go (fun a1 a2=>HWO0.out a1 a2) ?_;clear q F lg G0 G1;intro w2 q;have F:=q.f1;have lg:=(HC0.out _ q.wr.bel q.wr.base).1;have G0:=kid0 (HC0.out _ q.wr.bel q.wr.base).2;have G1:=kid1 (HC1.out _ q.wr.bel q.wr.base).2)
  |(go_at_call 66;refine sign66_30.mono ?_;rintro e w1 ⟨rfl,hb1⟩;replace q:=q.below hb1;clear hb1 F lg G0 G1;have F:=q.f1;have lg:=(HC0.out _ q.wr.bel q.wr.base).1;have G0:=kid0 (HC0.out _ q.wr.bel q.wr.base).2;have G1:=kid1 (HC1.out _ q.wr.bel q.wr.base).2))
 all_goals(go_end0;exact q.done (by simp<;>rfl))
set_option maxRecDepth 100000 in
theorem sign66_31:Calls Tryz.prog 66 #[.agg (nodeC 31 pos n m name (.slice ko kl kc))] w (fun e w'=>e=.returned (.string ⟨#[124,124]⟩)∧Below w.heap.size w w'):=by
 have F:Hid (Below w.heap.size w w):=Below.refl _ _
 go_enter Tryz.func66,Tryz.ntmps66
 go_wp2_with fail
 exact bodyPost_ret (v:=.string ⟨#[124,124]⟩) (by simp[results,Tryz.results66,go_sem]) rfl ⟨rfl,(F.out.alloc (Nat.le_refl _) _)⟩
set_option maxRecDepth 100000 in
set_option maxHeartbeats 1000000 in
theorem p26_31 (hR:RP B w0 wb f) (hm:Mx B w0) (ht:Tab B w0) (hx:Nw B w0 (f+1) (nodeC 31 pos n m name (.slice ko kl kc)).toList):Wq B w0 wb 26 (nodeC 31 pos n m name (.slice ko kl kc)) (tok (f+1) w0 (nodeC 31 pos n m name (.slice ko kl kc)).toList):=by
 intro w ts0 h hf
 have hcap:=hx.cap
 obtain⟨vs,hkl,hr,hg,htok,hs,hc⟩:=hx.opened
 rw[htok] at hf⊢
 clear htok hx
 have hn:=NK.of hr hg (by unfold kidK frK;omega)
 obtain rfl:kl=2:=by
  obtain⟨y,z,eks,-,-⟩:=hg.two (by decide)
  have:=congrArg List.length eks
  simp at this;omega
 obtain⟨k0,p0,a0,b0,s0,o0,l0,c0,g,X0,Y0,Z0,e0,y0,z0,rfl,W0,WO0,WR0,C0⟩:=kid_p hR hn hc (i:=0) (by omega)
 obtain⟨k1,p1,a1,b1,s1,o1,l1,c1,g1,X1,Y1,Z1,e1,y1,z1,eg1,W1,WO1,WR1,C1⟩:=kid_p hR hn hc (i:=1) (by omega)
 obtain rfl:g=g1:=by simpa using eg1
 have e:asm 31 n m (name:ByteArray).data.toList (vs.map (kdAt f w0))=Y0++(tl ⟨#[124,124]⟩::(Y1++[])):=by
  show pOp (kd (vs.map (kdAt f w0)) 0)++(tl ⟨#[124,124]⟩::pOp (kd (vs.map (kdAt f w0)) 1))=_;rw[e0,e1,y0,y1,List.append_nil]
 rw[e] at hf⊢
 clear e
 have q:=(Sp.start h hf).box (nodeC 31 pos n m name (.slice (some ⟨g,0,none⟩) 2 kc))
 have HWO0:Hid (Wq B w0 wb 63 (nodeC k0 p0 a0 b0 s0 (.slice o0 l0 c0)) Y0):=WO0
 have HC0:Hid (∀W,Below B w0 W→B≤W.heap.size→g<W.heap.size∧∀j,j<11→W.cell? ⟨g,0*11+j,none⟩=(nodeC k0 p0 a0 b0 s0 (.slice o0 l0 c0)).toList[j]?):=C0
 have HWO1:Hid (Wq B w0 wb 63 (nodeC k1 p1 a1 b1 s1 (.slice o1 l1 c1)) Y1):=WO1
 have HC1:Hid (∀W,Below B w0 W→B≤W.heap.size→g<W.heap.size∧∀j,j<11→W.cell? ⟨g,1*11+j,none⟩=(nodeC k1 p1 a1 b1 s1 (.slice o1 l1 c1)).toList[j]?):=C1
 clear e0 y0 z0 W0 WO0 WR0 C0
 clear e1 y1 z1 W1 WO1 WR1 C1 eg1
 clear h hf hr hg hc hkl hcap hn
 have F:=q.f1
 have lg:=(HC0.out _ q.wr.bel q.wr.base).1
 have G0:=kid0 (HC0.out _ q.wr.bel q.wr.base).2
 have G1:=kid1 (HC1.out _ q.wr.bel q.wr.base).2
 go_enter Tryz.func26,Tryz.ntmps26
 go_wp2_with (first
  |(go_at_call 63;refine q.go (fun a1 a2=>HWO1.out a1 a2) ?_;clear q F lg G0 G1;intro w2 q;have F:=q.f1;have lg:=(HC0.out _ q.wr.bel q.wr.base).1;have G0:=kid0 (HC0.out _ q.wr.bel q.wr.base).2;have G1:=kid1 (HC1.out _ q.wr.bel q.wr.base).2)
  |(go_at_call 47;refine q.put (s:=⟨#[124,124]⟩) ?_;clear q F lg G0 G1;intro w2 q;have F:=q.f1;have lg:=(HC0.out _ q.wr.bel q.wr.base).1;have G0:=kid0 (HC0.out _ q.wr.bel q.wr.base).2;have G1:=kid1 (HC1.out _ q.wr.bel q.wr.base).2)
  |(go_at_call 63;refine q.go (fun a1 a2=>HWO0.out a1 a2) ?_;clear q F lg G0 G1;intro w2 q;have F:=q.f1;have lg:=(HC0.out _ q.wr.bel q.wr.base).1;have G0:=kid0 (HC0.out _ q.wr.bel q.wr.base).2;have G1:=kid1 (HC1.out _ q.wr.bel q.wr.base).2)
  |(go_at_call 66;refine sign66_31.mono ?_;rintro e w1 ⟨rfl,hb1⟩;replace q:=q.below hb1;clear hb1 F lg G0 G1;have F:=q.f1;have lg:=(HC0.out _ q.wr.bel q.wr.base).1;have G0:=kid0 (HC0.out _ q.wr.bel q.wr.base).2;have G1:=kid1 (HC1.out _ q.wr.bel q.wr.base).2))
 all_goals(go_end0;exact q.done (by simp<;>rfl))
set_option maxRecDepth 100000 in
theorem sign66_32:Calls Tryz.prog 66 #[.agg (nodeC 32 pos n m name (.slice ko kl kc))] w (fun e w'=>e=.returned (.string ⟨#[61]⟩)∧Below w.heap.size w w'):=by
 have F:Hid (Below w.heap.size w w):=Below.refl _ _
 go_enter Tryz.func66,Tryz.ntmps66
 go_wp2_with fail
 exact bodyPost_ret (v:=.string ⟨#[61]⟩) (by simp[results,Tryz.results66,go_sem]) rfl ⟨rfl,(F.out.alloc (Nat.le_refl _) _)⟩
set_option maxRecDepth 100000 in
set_option maxHeartbeats 1000000 in
theorem p26_32 (hR:RP B w0 wb f) (hm:Mx B w0) (ht:Tab B w0) (hx:Nw B w0 (f+1) (nodeC 32 pos n m name (.slice ko kl kc)).toList):Wq B w0 wb 26 (nodeC 32 pos n m name (.slice ko kl kc)) (tok (f+1) w0 (nodeC 32 pos n m name (.slice ko kl kc)).toList):=by
 intro w ts0 h hf
 have hcap:=hx.cap
 obtain⟨vs,hkl,hr,hg,htok,hs,hc⟩:=hx.opened
 rw[htok] at hf⊢
 clear htok hx
 have hn:=NK.of hr hg (by unfold kidK frK;omega)
 obtain rfl:kl=2:=by
  obtain⟨y,z,eks,-,-⟩:=hg.two (by decide)
  have:=congrArg List.length eks
  simp at this;omega
 obtain⟨k0,p0,a0,b0,s0,o0,l0,c0,g,X0,Y0,Z0,e0,y0,z0,rfl,W0,WO0,WR0,C0⟩:=kid_p hR hn hc (i:=0) (by omega)
 obtain⟨k1,p1,a1,b1,s1,o1,l1,c1,g1,X1,Y1,Z1,e1,y1,z1,eg1,W1,WO1,WR1,C1⟩:=kid_p hR hn hc (i:=1) (by omega)
 obtain rfl:g=g1:=by simpa using eg1
 have e:asm 32 n m (name:ByteArray).data.toList (vs.map (kdAt f w0))=Y0++(tl ⟨#[61]⟩::(Y1++[])):=by
  show pOp (kd (vs.map (kdAt f w0)) 0)++(tl ⟨#[61]⟩::pOp (kd (vs.map (kdAt f w0)) 1))=_;rw[e0,e1,y0,y1,List.append_nil]
 rw[e] at hf⊢
 clear e
 have q:=(Sp.start h hf).box (nodeC 32 pos n m name (.slice (some ⟨g,0,none⟩) 2 kc))
 have HWO0:Hid (Wq B w0 wb 63 (nodeC k0 p0 a0 b0 s0 (.slice o0 l0 c0)) Y0):=WO0
 have HC0:Hid (∀W,Below B w0 W→B≤W.heap.size→g<W.heap.size∧∀j,j<11→W.cell? ⟨g,0*11+j,none⟩=(nodeC k0 p0 a0 b0 s0 (.slice o0 l0 c0)).toList[j]?):=C0
 have HWO1:Hid (Wq B w0 wb 63 (nodeC k1 p1 a1 b1 s1 (.slice o1 l1 c1)) Y1):=WO1
 have HC1:Hid (∀W,Below B w0 W→B≤W.heap.size→g<W.heap.size∧∀j,j<11→W.cell? ⟨g,1*11+j,none⟩=(nodeC k1 p1 a1 b1 s1 (.slice o1 l1 c1)).toList[j]?):=C1
 clear e0 y0 z0 W0 WO0 WR0 C0
 clear e1 y1 z1 W1 WO1 WR1 C1 eg1
 clear h hf hr hg hc hkl hcap hn
 have F:=q.f1
 have lg:=(HC0.out _ q.wr.bel q.wr.base).1
 have G0:=kid0 (HC0.out _ q.wr.bel q.wr.base).2
 have G1:=kid1 (HC1.out _ q.wr.bel q.wr.base).2
 go_enter Tryz.func26,Tryz.ntmps26
 go_wp2_with (first
  |(go_at_call 63;refine q.go (fun a1 a2=>HWO1.out a1 a2) ?_;clear q F lg G0 G1;intro w2 q;have F:=q.f1;have lg:=(HC0.out _ q.wr.bel q.wr.base).1;have G0:=kid0 (HC0.out _ q.wr.bel q.wr.base).2;have G1:=kid1 (HC1.out _ q.wr.bel q.wr.base).2)
  |(go_at_call 47;refine q.put (s:=⟨#[61]⟩) ?_;clear q F lg G0 G1;intro w2 q;have F:=q.f1;have lg:=(HC0.out _ q.wr.bel q.wr.base).1;have G0:=kid0 (HC0.out _ q.wr.bel q.wr.base).2;have G1:=kid1 (HC1.out _ q.wr.bel q.wr.base).2)
  |(go_at_call 63;refine q.go (fun a1 a2=>HWO0.out a1 a2) ?_;clear q F lg G0 G1;intro w2 q;have F:=q.f1;have lg:=(HC0.out _ q.wr.bel q.wr.base).1;have G0:=kid0 (HC0.out _ q.wr.bel q.wr.base).2;have G1:=kid1 (HC1.out _ q.wr.bel q.wr.base).2)
  |(go_at_call 66;refine sign66_32.mono ?_;rintro e w1 ⟨rfl,hb1⟩;replace q:=q.below hb1;clear hb1 F lg G0 G1;have F:=q.f1;have lg:=(HC0.out _ q.wr.bel q.wr.base).1;have G0:=kid0 (HC0.out _ q.wr.bel q.wr.base).2;have G1:=kid1 (HC1.out _ q.wr.bel q.wr.base).2))
 all_goals(go_end0;exact q.done (by simp<;>rfl))
end
end Go.Proofs.YtagdihffmjopaaaGreatDoor
