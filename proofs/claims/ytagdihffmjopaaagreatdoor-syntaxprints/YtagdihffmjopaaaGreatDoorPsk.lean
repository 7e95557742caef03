/- The project's writer: items. -/
import Derived.Test.YtagdihffmjopaaaGreatDoorPta
namespace Go.Proofs.YtagdihffmjopaaaGreatDoor
set_option linter.all false
open Go.RowKit
section
variable{B:Nat} {w0 w:World} {wb f:Nat} {ts0:List (List UInt8)} {kind pos n m:Int} {name:ByteArray} {ko:Option Addr} {kl kc:Nat}
theorem len_dec {α:Type} {xs:List α} {l:Nat} (h:xs.length=l):(xs.length !=0)=decide (0<l):=by
 subst h
 cases xs<;>simp
set_option maxRecDepth 100000 in
set_option maxHeartbeats 1000000 in
theorem p24_0 (hR:RP B w0 wb f) (hm:Mx B w0) (ht:Tab B w0) (hx:Nw B w0 (f+1) (nodeC 0 pos n m name (.slice ko kl kc)).toList):Wq B w0 wb 24 (nodeC 0 pos n m name (.slice ko kl kc)) (tok (f+1) w0 (nodeC 0 pos n m name (.slice ko kl kc)).toList):=by
 intro w ts0 h hf
 have hcap:=hx.cap
 obtain⟨vs,hkl,hr,hg,htok,hs,hc⟩:=hx.opened
 rw[htok] at hf⊢
 clear htok hx
 have hn:=NK.of hr hg (by unfold kidK frK;omega)
 have e:asm 0 n m (name:ByteArray).data.toList (vs.map (kdAt f w0))=pAll (vs.map (kdAt f w0))++[]:=by
  rw[List.append_nil];rfl
 rw[e] at hf⊢
 clear e
 have q:=(Sp.start h hf).box (nodeC 0 pos n m name (.slice ko kl kc))
 have HL:Hid (NK B w0 f ko vs∧vs.length=kl):=⟨hn,hkl⟩
 clear h hf hr hg hc hkl hcap hn
 have F:=q.f1
 go_enter Tryz.func24,Tryz.ntmps24
 go_wp2_with (first
  |(go_at_call 46;refine q.go (fun a1 a2=>nodes46 hR HL.out.1 HL.out.2 a1 a2) ?_;clear q F;intro w2 q;have F:=q.f1))
 all_goals(go_end0;exact q.done (by simp<;>rfl))
set_option maxRecDepth 100000 in
set_option maxHeartbeats 1000000 in
theorem p24_1 (hR:RP B w0 wb f) (hm:Mx B w0) (ht:Tab B w0) (hx:Nw B w0 (f+1) (nodeC 1 pos n m name (.slice ko kl kc)).toList):Wq B w0 wb 24 (nodeC 1 pos n m name (.slice ko kl kc)) (tok (f+1) w0 (nodeC 1 pos n m name (.slice ko kl kc)).toList):=by
 intro w ts0 h hf
 have hcap:=hx.cap
 obtain⟨vs,hkl,hr,hg,htok,hs,hc⟩:=hx.opened
 rw[htok] at hf⊢
 clear htok hx
 have hn:=NK.of hr hg (by unfold kidK frK;omega)
 have e:asm 1 n m (name:ByteArray).data.toList (vs.map (kdAt f w0))=[[109,111,100],tl name,[123]]++(pAll (vs.map (kdAt f w0))++[[125]]):=by
  rfl
 rw[e] at hf⊢
 clear e
 have q:=(Sp.start h hf).box (nodeC 1 pos n m name (.slice ko kl kc))
 have HL:Hid (NK B w0 f ko vs∧vs.length=kl):=⟨hn,hkl⟩
 clear h hf hr hg hc hkl hcap hn
 have F:=q.f1
 go_enter Tryz.func24,Tryz.ntmps24
 go_wp2_with (first
  |(go_at_call 47;refine q.puts (ss:=[⟨#[109,111,100]⟩,name,⟨#[123]⟩]) (hg:=by first|rfl|simp) (ho:=rfl) (hX:=rfl) (hn:=rfl) (hl:=by decide) ?_;clear q F;intro w2 q;have F:=q.f1)
  |(go_at_call 47;refine q.put ?_;clear q F;intro w2 q;have F:=q.f1)
  |(go_at_call 46;refine q.go (fun a1 a2=>nodes46 hR HL.out.1 HL.out.2 a1 a2) ?_;clear q F;intro w2 q;have F:=q.f1))
 all_goals(go_end0;exact q.done (by simp<;>rfl))
set_option maxRecDepth 100000 in
set_option maxHeartbeats 1000000 in
theorem p24_2 (hR:RP B w0 wb f) (hm:Mx B w0) (ht:Tab B w0) (hx:Nw B w0 (f+1) (nodeC 2 pos n m name (.slice ko kl kc)).toList):Wq B w0 wb 24 (nodeC 2 pos n m name (.slice ko kl kc)) (tok (f+1) w0 (nodeC 2 pos n m name (.slice ko kl kc)).toList):=by
 intro w ts0 h hf
 have hcap:=hx.cap
 obtain⟨vs,hkl,hr,hg,htok,hs,hc⟩:=hx.opened
 rw[htok] at hf⊢
 clear htok hx
 have e:asm 2 n m (name:ByteArray).data.toList (vs.map (kdAt f w0))=[117,115,101]::pth (tl name)::[59]::[]:=by
  rfl
 rw[e] at hf⊢
 clear e
 have q:=(Sp.start h hf).box (nodeC 2 pos n m name (.slice ko kl kc))
 clear h hf hr hg hc hkl hcap
 have F:=q.f1
 go_enter Tryz.func24,Tryz.ntmps24
 go_wp2_with (first
  |(go_at_call 47;refine q.put ?_;clear q F;intro w2 q;have F:=q.f1)
  |(go_at_call 48;refine q.go (fun a1 a2=>path48 hm hs a1 a2) ?_;clear q F;intro w2 q;have F:=q.f1))
 all_goals(go_end0;exact q.done (rfl))
set_option maxRecDepth 100000 in
set_option maxHeartbeats 1000000 in
theorem p24_9 (hR:RP B w0 wb f) (hm:Mx B w0) (ht:Tab B w0) (hx:Nw B w0 (f+1) (nodeC 9 pos n m name (.slice ko kl kc)).toList):Wq B w0 wb 24 (nodeC 9 pos n m name (.slice ko kl kc)) (tok (f+1) w0 (nodeC 9 pos n m name (.slice ko kl kc)).toList):=by
 intro w ts0 h hf
 have hcap:=hx.cap
 obtain⟨vs,hkl,hr,hg,htok,hs,hc⟩:=hx.opened
 rw[htok] at hf⊢
 clear htok hx
 have hn:=NK.of hr hg (by unfold kidK frK;omega)
 have e:asm 9 n m (name:ByteArray).data.toList (vs.map (kdAt f w0))=pAng (vs.map (kdAt f w0))++[]:=by
  rw[List.append_nil];rfl
 rw[e] at hf⊢
 clear e
 have q:=(Sp.start h hf).box (nodeC 9 pos n m name (.slice ko kl kc))
 have HL:Hid (NK B w0 f ko vs∧vs.length=kl):=⟨hn,hkl⟩
 clear h hf hr hg hc hkl hcap hn
 have F:=q.f1
 go_enter Tryz.func24,Tryz.ntmps24
 go_wp2_with (first
  |(go_at_call 55;refine q.go (fun a1 a2=>angles55 hR HL.out.1 HL.out.2 a1 a2) ?_;clear q F;intro w2 q;have F:=q.f1))
 all_goals(go_end0;exact q.done (by simp<;>rfl))
set_option maxRecDepth 100000 in
set_option maxHeartbeats 1000000 in
theorem p24_10 (hR:RP B w0 wb f) (hm:Mx B w0) (ht:Tab B w0) (hx:Nw B w0 (f+1) (nodeC 10 pos n m name (.slice ko kl kc)).toList):Wq B w0 wb 24 (nodeC 10 pos n m name (.slice ko kl kc)) (tok (f+1) w0 (nodeC 10 pos n m name (.slice ko kl kc)).toList):=by
 intro w ts0 h hf
 have hcap:=hx.cap
 obtain⟨vs,hkl,hr,hg,htok,hs,hc⟩:=hx.opened
 rw[htok] at hf⊢
 clear htok hx
 have hn:=NK.of hr hg (by unfold kidK frK;omega)
 have e:asm 10 n m (name:ByteArray).data.toList (vs.map (kdAt f w0))=tl name::(pWhen (decide (0<kl)) [[58]]++(pSep (tl ⟨#[43]⟩) (vs.map (kdAt f w0))++[])):=by
  show tl name::(pWhen ((vs.map (kdAt f w0)).length !=0) [[58]]++pSep [43] (vs.map (kdAt f w0)))=_;rw[len_dec (l:=kl) (by rw[List.length_map];exact hkl),List.append_nil];rfl
 rw[e] at hf⊢
 clear e
 have q:=(Sp.start h hf).box (nodeC 10 pos n m name (.slice ko kl kc))
 have HL:Hid (NK B w0 f ko vs∧vs.length=kl):=⟨hn,hkl⟩
 clear h hf hr hg hc hkl hcap hn
 have F:=q.f1
 go_enter Tryz.func24,Tryz.ntmps24
 go_wp2_with (first
  |(go_at_call 47;refine q.put ?_;clear q F;intro w2 q;have F:=q.f1)
  |(go_at_call 56;refine q.when (ss:=[⟨#[58]⟩]) ?_;clear q F;intro w2 q;have F:=q.f1)
  |(go_at_call 57;refine q.go (fun a1 a2=>between57 hR ⟨#[43]⟩ HL.out.1 HL.out.2 a1 a2) ?_;clear q F;intro w2 q;have F:=q.f1))
 all_goals(go_end0;exact q.done (by simp<;>rfl))
set_option maxRecDepth 100000 in
set_option maxHeartbeats 1000000 in
theorem p24_11 (hR:RP B w0 wb f) (hm:Mx B w0) (ht:Tab B w0) (hx:Nw B w0 (f+1) (nodeC 11 pos n m name (.slice ko kl kc)).toList):Wq B w0 wb 24 (nodeC 11 pos n m name (.slice ko kl kc)) (tok (f+1) w0 (nodeC 11 pos n m name (.slice ko kl kc)).toList):=by
 intro w ts0 h hf
 have hcap:=hx.cap
 obtain⟨vs,hkl,hr,hg,htok,hs,hc⟩:=hx.opened
 rw[htok] at hf⊢
 clear htok hx
 have hn:=NK.of hr hg (by unfold kidK frK;omega)
 have e:asm 11 n m (name:ByteArray).data.toList (vs.map (kdAt f w0))=tl name::(pWhen (decide (0<kl)) [[58]]++(pSep (tl ⟨#[43]⟩) (vs.map (kdAt f w0))++[])):=by
  show tl name::(pWhen ((vs.map (kdAt f w0)).length !=0) [[58]]++pSep [43] (vs.map (kdAt f w0)))=_;rw[len_dec (l:=kl) (by rw[List.length_map];exact hkl),List.append_nil];rfl
 rw[e] at hf⊢
 clear e
 have q:=(Sp.start h hf).box (nodeC 11 pos n m name (.slice ko kl kc))
 have HL:Hid (NK B w0 f ko vs∧vs.length=kl):=⟨hn,hkl⟩
 clear h hf hr hg hc hkl hcap hn
 have F:=q.f1
 go_enter Tryz.func24,Tryz.ntmps24
 go_wp2_with (first
  |(go_at_call 47;refine q.put ?_;clear q F;intro w2 q;have F:=q.f1)
  |(go_at_call 56;refine q.when (ss:=[⟨#[58]⟩]) ?_;clear q F;intro w2 q;have F:=q.f1)
  |(go_at_call 57;refine q.go (fun a1 a2=>between57 hR ⟨#[43]⟩ HL.out.1 HL.out.2 a1 a2) ?_;clear q F;intro w2 q;have F:=q.f1))
 all_goals(go_end0;exact q.done (by simp<;>rfl))
set_option maxRecDepth 100000 in
set_option maxHeartbeats 1000000 in
theorem p49_3s0 (hR:RP B w0 wb f) (hm:Mx B w0) (ht:Tab B w0) (hmm:m=0) (hnn:n=0) (hx:Nw B w0 (f+1) (nodeC 3 pos n m name (.slice ko kl kc)).toList):Wq B w0 wb 49 (nodeC 3 pos n m name (.slice ko kl kc)) (tok (f+1) w0 (nodeC 3 pos n m name (.slice ko kl kc)).toList):=by
 intro w ts0 h hf
 have hcap:=hx.cap
 obtain⟨vs,hkl,hr,hg,htok,hs,hc⟩:=hx.opened
 rw[htok] at hf⊢
 clear htok hx
 have hn:=NK.of hr hg (by unfold kidK frK;omega)
 obtain rfl:m=0:=hmm
 obtain rfl:n=0:=hnn
 have e:asm 3 0 0 (name:ByteArray).data.toList (vs.map (kdAt f w0))=pWhen false [[112,117,98]]++(pWhen false [[99,111,112,121]]++([[115,116,114,117,99,116],tl name]++(pAll (vs.map (kdAt f w0))++[]))):=by
  show pWhen ((0:Int)%2==1) [[112,117,98]]++pWhen (decide (2≤(0:Int))) [[99,111,112,121]]++([115,116,114,117,99,116]::tl name::pAll (vs.map (kdAt f w0)))=_;rw[List.append_nil];simp[pWhen]
 rw[e] at hf⊢
 clear e
 have q:=(Sp.start h hf).box (nodeC 3 pos 0 0 name (.slice ko kl kc))
 have HL:Hid (NK B w0 f ko vs∧vs.length=kl):=⟨hn,hkl⟩
 clear h hf hr hg hc hkl hcap hn
 have F:=q.f1
 go_enter Tryz.func49,Tryz.ntmps49
 go_wp2_with (first
  |(go_at_call 56;refine q.when (ss:=[⟨#[99,111,112,121]⟩]) ?_;clear q F;intro w2 q;have F:=q.f1)
  |(go_at_call 56;refine q.when (ss:=[⟨#[112,117,98]⟩]) ?_;clear q F;intro w2 q;have F:=q.f1)
  |(go_at_call 47;refine q.puts (ss:=[⟨#[115,116,114,117,99,116]⟩,name]) (hg:=by first|rfl|simp) (ho:=rfl) (hX:=rfl) (hn:=rfl) (hl:=by decide) ?_;clear q F;intro w2 q;have F:=q.f1)
  |(go_at_call 46;refine q.go (fun a1 a2=>nodes46 hR HL.out.1 HL.out.2 a1 a2) ?_;clear q F;intro w2 q;have F:=q.f1))
 all_goals(go_end0;exact q.done (by simp<;>rfl))
set_option maxRecDepth 100000 in
set_option maxHeartbeats 1000000 in
theorem p49_3e0 (hR:RP B w0 wb f) (hm:Mx B w0) (ht:Tab B w0) (hmm:m=0) (hnn:n=1) (hx:Nw B w0 (f+1) (nodeC 3 pos n m name (.slice ko kl kc)).toList):Wq B w0 wb 49 (nodeC 3 pos n m name (.slice ko kl kc)) (tok (f+1) w0 (nodeC 3 pos n m name (.slice ko kl kc)).toList):=by
 intro w ts0 h hf
 have hcap:=hx.cap
 obtain⟨vs,hkl,hr,hg,htok,hs,hc⟩:=hx.opened
 rw[htok] at hf⊢
 clear htok hx
 have hn:=NK.of hr hg (by unfold kidK frK;omega)
 obtain rfl:m=0:=hmm
 obtain rfl:n=1:=hnn
 have:kl≠0:=by
  obtain⟨-,⟨h0,-⟩|⟨-,zs,eks,-⟩⟩:=hg.data rfl
  ·omega
  ·have:=congrArg List.length eks
   simp at this;omega
 obtain⟨l1,rfl⟩:∃l1,kl=l1+1:=⟨kl - 1,by omega⟩
 obtain⟨c1,rfl⟩:∃c1,kc=c1+1:=⟨kc - 1,by omega⟩
 obtain⟨k0,p0,a0,b0,s0,o0,l0,c0,g,X0,Y0,Z0,e0,y0,z0,rfl,W0,WO0,WR0,C0⟩:=kid_p hR hn hc (i:=0) (by omega)
 obtain⟨us,hus⟩:∃us,us=vs.drop 1:=⟨_,rfl⟩
 have hul:us.length=l1:=by rw[hus,List.length_drop];omega
 have em:(vs.map (kdAt f w0)).drop 1=us.map (kdAt f w0):=by rw[hus,List.map_drop]
 have hb:=hn.row.few
 rw[hkl] at hb
 have e:asm 3 1 0 (name:ByteArray).data.toList (vs.map (kdAt f w0))=pWhen false [[112,117,98]]++(pWhen false [[99,111,112,121]]++([[101,110,117,109],tl name]++(X0++(pRow [123] [125] (us.map (kdAt f w0))++[])))):=by
  show pWhen ((0:Int)%2==1) [[112,117,98]]++pWhen (decide (2≤(0:Int))) [[99,111,112,121]]++([101,110,117,109]::tl name::((kd (vs.map (kdAt f w0)) 0).t++pRow [123] [125] ((vs.map (kdAt f w0)).drop 1)))=_;rw[e0,em,List.append_nil];simp[pWhen]
 rw[e] at hf⊢
 clear e
 have q:=(Sp.start h hf).box (nodeC 3 pos 1 0 name (.slice (some ⟨g,0,none⟩) (l1+1) (c1+1)))
 have HW0:Hid (Wq B w0 wb 14 (nodeC k0 p0 a0 b0 s0 (.slice o0 l0 c0)) X0):=W0
 have HC0:Hid (∀W,Below B w0 W→B≤W.heap.size→g<W.heap.size∧∀j,j<11→W.cell? ⟨g,0*11+j,none⟩=(nodeC k0 p0 a0 b0 s0 (.slice o0 l0 c0)).toList[j]?):=C0
 have HL:Hid (NK B w0 f (some ⟨g,11,none⟩) us∧us.length=l1):=⟨by have:=hn.drop 1;rw[←hus] at this;simpa using this,hul⟩
 have HZ:Hid (∀a,c1=0→NK B w0 f a us):=fun a hz=>by
  obtain rfl:us=[]:=List.eq_nil_of_length_eq_zero (by omega)
  exact NK.nil
 have hbI:(l1:Int)+1≤20000:=by omega
 have hcI:(l1:Int)≤(c1:Int):=by omega
 clear e0 y0 z0 W0 WO0 WR0 C0
 clear h hf hr hg hc hkl hcap hn hus hul em hb
 have F:=q.f1
 have lg:=(HC0.out _ q.wr.bel q.wr.base).1
 have G0:=kid0 (HC0.out _ q.wr.bel q.wr.base).2
 go_enter Tryz.func49,Tryz.ntmps49
 go_wp2_with (first
  |(go_at_call 56;refine q.when (ss:=[⟨#[99,111,112,121]⟩]) ?_;clear q F lg G0;intro w2 q;have F:=q.f1;have lg:=(HC0.out _ q.wr.bel q.wr.base).1;have G0:=kid0 (HC0.out _ q.wr.bel q.wr.base).2)
  |(go_at_call 56;refine q.when (ss:=[⟨#[112,117,98]⟩]) ?_;clear q F lg G0;intro w2 q;have F:=q.f1;have lg:=(HC0.out _ q.wr.bel q.wr.base).1;have G0:=kid0 (HC0.out _ q.wr.bel q.wr.base).2)
  |(go_at_call 47;refine q.puts (ss:=[⟨#[101,110,117,109]⟩,name]) (hg:=by first|rfl|simp) (ho:=rfl) (hX:=rfl) (hn:=rfl) (hl:=by decide) ?_;clear q F lg G0;intro w2 q;have F:=q.f1;have lg:=(HC0.out _ q.wr.bel q.wr.base).1;have G0:=kid0 (HC0.out _ q.wr.bel q.wr.base).2)
  |(go_at_call 58;refine q.go (fun a1 a2=>row58 hR ⟨#[123]⟩ ⟨#[125]⟩ (HZ.out _ (by first|rfl|assumption|omega)) HL.out.2 a1 a2) ?_;clear q F lg G0;intro w2 q;have F:=q.f1;have lg:=(HC0.out _ q.wr.bel q.wr.base).1;have G0:=kid0 (HC0.out _ q.wr.bel q.wr.base).2)
  |(go_at_call 58;refine q.go (fun a1 a2=>row58 hR ⟨#[123]⟩ ⟨#[125]⟩ HL.out.1 HL.out.2 a1 a2) ?_;clear q F lg G0;intro w2 q;have F:=q.f1;have lg:=(HC0.out _ q.wr.bel q.wr.base).1;have G0:=kid0 (HC0.out _ q.wr.bel q.wr.base).2)
  |(go_at_call 14;refine q.go (fun a1 a2=>HW0.out a1 a2) ?_;clear q F lg G0;intro w2 q;have F:=q.f1;have lg:=(HC0.out _ q.wr.bel q.wr.base).1;have G0:=kid0 (HC0.out _ q.wr.bel q.wr.base).2))
 all_goals(go_end0;exact q.done (by simp<;>rfl))
set_option maxRecDepth 100000 in
set_option maxHeartbeats 1000000 in
theorem p49_3s1 (hR:RP B w0 wb f) (hm:Mx B w0) (ht:Tab B w0) (hmm:m=1) (hnn:n=0) (hx:Nw B w0 (f+1) (nodeC 3 pos n m name (.slice ko kl kc)).toList):Wq B w0 wb 49 (nodeC 3 pos n m name (.slice ko kl kc)) (tok (f+1) w0 (nodeC 3 pos n m name (.slice ko kl kc)).toList):=by
 intro w ts0 h hf
 have hcap:=hx.cap
 obtain⟨vs,hkl,hr,hg,htok,hs,hc⟩:=hx.opened
 rw[htok] at hf⊢
 clear htok hx
 have hn:=NK.of hr hg (by unfold kidK frK;omega)
 obtain rfl:m=1:=hmm
 obtain rfl:n=0:=hnn
 have e:asm 3 0 1 (name:ByteArray).data.toList (vs.map (kdAt f w0))=pWhen true [[112,117,98]]++(pWhen false [[99,111,112,121]]++([[115,116,114,117,99,116],tl name]++(pAll (vs.map (kdAt f w0))++[]))):=by
  show pWhen ((1:Int)%2==1) [[112,117,98]]++pWhen (decide (2≤(1:Int))) [[99,111,112,121]]++([115,116,114,117,99,116]::tl name::pAll (vs.map (kdAt f w0)))=_;rw[List.append_nil];simp[pWhen]
 rw[e] at hf⊢
 clear e
 have q:=(Sp.start h hf).box (nodeC 3 pos 0 1 name (.slice ko kl kc))
 have HL:Hid (NK B w0 f ko vs∧vs.length=kl):=⟨hn,hkl⟩
 clear h hf hr hg hc hkl hcap hn
 have F:=q.f1
 go_enter Tryz.func49,Tryz.ntmps49
 go_wp2_with (first
  |(go_at_call 56;refine q.when (ss:=[⟨#[99,111,112,121]⟩]) ?_;clear q F;intro w2 q;have F:=q.f1)
  |(go_at_call 56;refine q.when (ss:=[⟨#[112,117,98]⟩]) ?_;clear q F;intro w2 q;have F:=q.f1)
  |(go_at_call 47;refine q.puts (ss:=[⟨#[115,116,114,117,99,116]⟩,name]) (hg:=by first|rfl|simp) (ho:=rfl) (hX:=rfl) (hn:=rfl) (hl:=by decide) ?_;clear q F;intro w2 q;have F:=q.f1)
  |(go_at_call 46;refine q.go (fun a1 a2=>nodes46 hR HL.out.1 HL.out.2 a1 a2) ?_;clear q F;intro w2 q;have F:=q.f1))
 all_goals(go_end0;exact q.done (by simp<;>rfl))
set_option maxRecDepth 100000 in
set_option maxHeartbeats 1000000 in
theorem p49_3e1 (hR:RP B w0 wb f) (hm:Mx B w0) (ht:Tab B w0) (hmm:m=1) (hnn:n=1) (hx:Nw B w0 (f+1) (nodeC 3 pos n m name (.slice ko kl kc)).toList):Wq B w0 wb 49 (nodeC 3 pos n m name (.slice ko kl kc)) (tok (f+1) w0 (nodeC 3 pos n m name (.slice ko kl kc)).toList):=by
 intro w ts0 h hf
 have hcap:=hx.cap
 obtain⟨vs,hkl,hr,hg,htok,hs,hc⟩:=hx.opened
 rw[htok] at hf⊢
 clear htok hx
 have hn:=NK.of hr hg (by unfold kidK frK;omega)
 obtain rfl:m=1:=hmm
 obtain rfl:n=1:=hnn
 have:kl≠0:=by
  obtain⟨-,⟨h0,-⟩|⟨-,zs,eks,-⟩⟩:=hg.data rfl
  ·omega
  ·have:=congrArg List.length eks
   simp at this;omega
 obtain⟨l1,rfl⟩:∃l1,kl=l1+1:=⟨kl - 1,by omega⟩
 obtain⟨c1,rfl⟩:∃c1,kc=c1+1:=⟨kc - 1,by omega⟩
 obtain⟨k0,p0,a0,b0,s0,o0,l0,c0,g,X0,Y0,Z0,e0,y0,z0,rfl,W0,WO0,WR0,C0⟩:=kid_p hR hn hc (i:=0) (by omega)
 obtain⟨us,hus⟩:∃us,us=vs.drop 1:=⟨_,rfl⟩
 have hul:us.length=l1:=by rw[hus,List.length_drop];omega
 have em:(vs.map (kdAt f w0)).drop 1=us.map (kdAt f w0):=by rw[hus,List.map_drop]
 have hb:=hn.row.few
 rw[hkl] at hb
 have e:asm 3 1 1 (name:ByteArray).data.toList (vs.map (kdAt f w0))=pWhen true [[112,117,98]]++(pWhen false [[99,111,112,121]]++([[101,110,117,109],tl name]++(X0++(pRow [123] [125] (us.map (kdAt f w0))++[])))):=by
  show pWhen ((1:Int)%2==1) [[112,117,98]]++pWhen (decide (2≤(1:Int))) [[99,111,112,121]]++([101,110,117,109]::tl name::((kd (vs.map (kdAt f w0)) 0).t++pRow [123] [125] ((vs.map (kdAt f w0)).drop 1)))=_;rw[e0,em,List.append_nil];simp[pWhen]
 rw[e] at hf⊢
 clear e
 have q:=(Sp.start h hf).box (nodeC 3 pos 1 1 name (.slice (some ⟨g,0,none⟩) (l1+1) (c1+1)))
 have HW0:Hid (Wq B w0 wb 14 (nodeC k0 p0 a0 b0 s0 (.slice o0 l0 c0)) X0):=W0
 have HC0:Hid (∀W,Below B w0 W→B≤W.heap.size→g<W.heap.size∧∀j,j<11→W.cell? ⟨g,0*11+j,none⟩=(nodeC k0 p0 a0 b0 s0 (.slice o0 l0 c0)).toList[j]?):=C0
 have HL:Hid (NK B w0 f (some ⟨g,11,none⟩) us∧us.length=l1):=⟨by have:=hn.drop 1;rw[←hus] at this;simpa using this,hul⟩
 have HZ:Hid (∀a,c1=0→NK B w0 f a us):=fun a hz=>by
  obtain rfl:us=[]:=List.eq_nil_of_length_eq_zero (by omega)
  exact NK.nil
 have hbI:(l1:Int)+1≤20000:=by omega
 have hcI:(l1:Int)≤(c1:Int):=by omega
 clear e0 y0 z0 W0 WO0 WR0 C0
 clear h hf hr hg hc hkl hcap hn hus hul em hb
 have F:=q.f1
 have lg:=(HC0.out _ q.wr.bel q.wr.base).1
 have G0:=kid0 (HC0.out _ q.wr.bel q.wr.base).2
 go_enter Tryz.func49,Tryz.ntmps49
 go_wp2_with (first
  |(go_at_call 56;refine q.when (ss:=[⟨#[99,111,112,121]⟩]) ?_;clear q F lg G0;intro w2 q;have F:=q.f1;have lg:=(HC0.out _ q.wr.bel q.wr.base).1;have G0:=kid0 (HC0.out _ q.wr.bel q.wr.base).2)
  |(go_at_call 56;refine q.when (ss:=[⟨#[112,117,98]⟩]) ?_;clear q F lg G0;intro w2 q;have F:=q.f1;have lg:=(HC0.out _ q.wr.bel q.wr.base).1;have G0:=kid0 (HC0.out _ q.wr.bel q.wr.base).2)
  |(go_at_call 47;refine q.puts (ss:=[⟨#[101,110,117,109]⟩,name]) (hg:=by first|rfl|simp) (ho:=rfl) (hX:=rfl) (hn:=rfl) (hl:=by decide) ?_;clear q F lg G0;intro w2 q;have F:=q.f1;have lg:=(HC0.out _ q.wr.bel q.wr.base).1;have G0:=kid0 (HC0.out _ q.wr.bel q.wr.base).2)
  |(go_at_call 58;refine q.go (fun a1 a2=>row58 hR ⟨#[123]⟩ ⟨#[125]⟩ (HZ.out _ (by first|rfl|assumption|omega)) HL.out.2 a1 a2) ?_;clear q F lg G0;intro w2 q;have F:=q.f1;have lg:=(HC0.out _ q.wr.bel q.wr.base).1;have G0:=kid0 (HC0.out _ q.wr.bel q.wr.base).2)
  |(go_at_call 58;refine q.go (fun a1 a2=>row58 hR ⟨#[123]⟩ ⟨#[125]⟩ HL.out.1 HL.out.2 a1 a2) ?_;clear q F lg G0;intro w2 q;have F:=q.f1;have lg:=(HC0.out _ q.wr.bel q.wr.base).1;have G0:=kid0 (HC0.out _ q.wr.bel q.wr.base).2)
  |(go_at_call 14;refine q.go (fun a1 a2=>HW0.out a1 a2) ?_;clear q F lg G0;intro w2 q;have F:=q.f1;have lg:=(HC0.out _ q.wr.bel q.wr.base).1;have G0:=kid0 (HC0.out _ q.wr.bel q.wr.base).2))
 all_goals(go_end0;exact q.done (by simp<;>rfl))
set_option maxRecDepth 100000 in
set_option maxHeartbeats 1000000 in
theorem p49_3s2 (hR:RP B w0 wb f) (hm:Mx B w0) (ht:Tab B w0) (hmm:m=2) (hnn:n=0) (hx:Nw B w0 (f+1) (nodeC 3 pos n m name (.slice ko kl kc)).toList):Wq B w0 wb 49 (nodeC 3 pos n m name (.slice ko kl kc)) (tok (f+1) w0 (nodeC 3 pos n m name (.slice ko kl kc)).toList):=by
 intro w ts0 h hf
 have hcap:=hx.cap
 obtain⟨vs,hkl,hr,hg,htok,hs,hc⟩:=hx.opened
 rw[htok] at hf⊢
 clear htok hx
 have hn:=NK.of hr hg (by unfold kidK frK;omega)
 obtain rfl:m=2:=hmm
 obtain rfl:n=0:=hnn
 have e:asm 3 0 2 (name:ByteArray).data.toList (vs.map (kdAt f w0))=pWhen false [[112,117,98]]++(pWhen true [[99,111,112,121]]++([[115,116,114,117,99,116],tl name]++(pAll (vs.map (kdAt f w0))++[]))):=by
  show pWhen ((2:Int)%2==1) [[112,117,98]]++pWhen (decide (2≤(2:Int))) [[99,111,112,121]]++([115,116,114,117,99,116]::tl name::pAll (vs.map (kdAt f w0)))=_;rw[List.append_nil];simp[pWhen]
 rw[e] at hf⊢
 clear e
 have q:=(Sp.start h hf).box (nodeC 3 pos 0 2 name (.slice ko kl kc))
 have HL:Hid (NK B w0 f ko vs∧vs.length=kl):=⟨hn,hkl⟩
 clear h hf hr hg hc hkl hcap hn
 have F:=q.f1
 go_enter Tryz.func49,Tryz.ntmps49
 go_wp2_with (first
  |(go_at_call 56;refine q.when (ss:=[⟨#[99,111,112,121]⟩]) ?_;clear q F;intro w2 q;have F:=q.f1)
  |(go_at_call 56;refine q.when (ss:=[⟨#[112,117,98]⟩]) ?_;clear q F;intro w2 q;have F:=q.f1)
  |(go_at_call 47;refine q.puts (ss:=[⟨#[115,116,114,117,99,116]⟩,name]) (hg:=by first|rfl|simp) (ho:=rfl) (hX:=rfl) (hn:=rfl) (hl:=by decide) ?_;clear q F;intro w2 q;have F:=q.f1)
  |(go_at_call 46;refine q.go (fun a1 a2=>nodes46 hR HL.out.1 HL.out.2 a1 a2) ?_;clear q F;intro w2 q;have F:=q.f1))
 all_goals(go_end0;exact q.done (by simp<;>rfl))
set_option maxRecDepth 100000 in
set_option maxHeartbeats 1000000 in
theorem p49_3e2 (hR:RP B w0 wb f) (hm:Mx B w0) (ht:Tab B w0) (hmm:m=2) (hnn:n=1) (hx:Nw B w0 (f+1) (nodeC 3 pos n m name (.slice ko kl kc)).toList):Wq B w0 wb 49 (nodeC 3 pos n m name (.slice ko kl kc)) (tok (f+1) w0 (nodeC 3 pos n m name (.slice ko kl kc)).toList):=by
 intro w ts0 h hf
 have hcap:=hx.cap
 obtain⟨vs,hkl,hr,hg,htok,hs,hc⟩:=hx.opened
 rw[htok] at hf⊢
 clear htok hx
 have hn:=NK.of hr hg (by unfold kidK frK;omega)
 obtain rfl:m=2:=hmm
 obtain rfl:n=1:=hnn
 have:kl≠0:=by
  obtain⟨-,⟨h0,-⟩|⟨-,zs,eks,-⟩⟩:=hg.data rfl
  ·omega
  ·have:=congrArg List.length eks
   simp at this;omega
 obtain⟨l1,rfl⟩:∃l1,kl=l1+1:=⟨kl - 1,by omega⟩
 obtain⟨c1,rfl⟩:∃c1,kc=c1+1:=⟨kc - 1,by omega⟩
 obtain⟨k0,p0,a0,b0,s0,o0,l0,c0,g,X0,Y0,Z0,e0,y0,z0,rfl,W0,WO0,WR0,C0⟩:=kid_p hR hn hc (i:=0) (by omega)
 obtain⟨us,hus⟩:∃us,us=vs.drop 1:=⟨_,rfl⟩
 have hul:us.length=l1:=by rw[hus,List.length_drop];omega
 have em:(vs.map (kdAt f w0)).drop 1=us.map (kdAt f w0):=by rw[hus,List.map_drop]
 have hb:=hn.row.few
 rw[hkl] at hb
 have e:asm 3 1 2 (name:ByteArray).data.toList (vs.map (kdAt f w0))=pWhen false [[112,117,98]]++(pWhen true [[99,111,112,121]]++([[101,110,117,109],tl name]++(X0++(pRow [123] [125] (us.map (kdAt f w0))++[])))):=by
  show pWhen ((2:Int)%2==1) [[112,117,98]]++pWhen (decide (2≤(2:Int))) [[99,111,112,121]]++([101,110,117,109]::tl name::((kd (vs.map (kdAt f w0)) 0).t++pRow [123] [125] ((vs.map (kdAt f w0)).drop 1)))=_;rw[e0,em,List.append_nil];simp[pWhen]
 rw[e] at hf⊢
 clear e
 have q:=(Sp.start h hf).box (nodeC 3 pos 1 2 name (.slice (some ⟨g,0,none⟩) (l1+1) (c1+1)))
 have HW0:Hid (Wq B w0 wb 14 (nodeC k0 p0 a0 b0 s0 (.slice o0 l0 c0)) X0):=W0
 have HC0:Hid (∀W,Below B w0 W→B≤W.heap.size→g<W.heap.size∧∀j,j<11→W.cell? ⟨g,0*11+j,none⟩=(nodeC k0 p0 a0 b0 s0 (.slice o0 l0 c0)).toList[j]?):=C0
 have HL:Hid (NK B w0 f (some ⟨g,11,none⟩) us∧us.length=l1):=⟨by have:=hn.drop 1;rw[←hus] at this;simpa using this,hul⟩
 have HZ:Hid (∀a,c1=0→NK B w0 f a us):=fun a hz=>by
  obtain rfl:us=[]:=List.eq_nil_of_length_eq_zero (by omega)
  exact NK.nil
 have hbI:(l1:Int)+1≤20000:=by omega
 have hcI:(l1:Int)≤(c1:Int):=by omega
 clear e0 y0 z0 W0 WO0 WR0 C0
 clear h hf hr hg hc hkl hcap hn hus hul em hb
 have F:=q.f1
 have lg:=(HC0.out _ q.wr.bel q.wr.base).1
 have G0:=kid0 (HC0.out _ q.wr.bel q.wr.base).2
 go_enter Tryz.func49,Tryz.ntmps49
 go_wp2_with (first
  |(go_at_call 56;refine q.when (ss:=[⟨#[99,111,112,121]⟩]) ?_;clear q F lg G0;intro w2 q;have F:=q.f1;have lg:=(HC0.out _ q.wr.bel q.wr.base).1;have G0:=kid0 (HC0.out _ q.wr.bel q.wr.base).2)
  |(go_at_call 56;refine q.when (ss:=[⟨#[112,117,98]⟩]) ?_;clear q F lg G0;intro w2 q;have F:=q.f1;have lg:=(HC0.out _ q.wr.bel q.wr.base).1;have G0:=kid0 (HC0.out _ q.wr.bel q.wr.base).2)
  |(go_at_call 47;refine q.puts (ss:=[⟨#[101,110,117,109]⟩,name]) (hg:=by first|rfl|simp) (ho:=rfl) (hX:=rfl) (hn:=rfl) (hl:=by decide) ?_;clear q F lg G0;intro w2 q;have F:=q.f1;have lg:=(HC0.out _ q.wr.bel q.wr.base).1;have G0:=kid0 (HC0.out _ q.wr.bel q.wr.base).2)
  |(go_at_call 58;refine q.go (fun a1 a2=>row58 hR ⟨#[123]⟩ ⟨#[125]⟩ (HZ.out _ (by first|rfl|assumption|omega)) HL.out.2 a1 a2) ?_;clear q F lg G0;intro w2 q;have F:=q.f1;have lg:=(HC0.out _ q.wr.bel q.wr.base).1;have G0:=kid0 (HC0.out _ q.wr.bel q.wr.base).2)
  |(go_at_call 58;refine q.go (fun a1 a2=>row58 hR ⟨#[123]⟩ ⟨#[125]⟩ HL.out.1 HL.out.2 a1 a2) ?_;clear q F lg G0;intro w2 q;have F:=q.f1;have lg:=(HC0.out _ q.wr.bel q.wr.base).1;have G0:=kid0 (HC0.out _ q.wr.bel q.wr.base).2)
  |(go_at_call 14;refine q.go (fun a1 a2=>HW0.out a1 a2) ?_;clear q F lg G0;intro w2 q;have F:=q.f1;have lg:=(HC0.out _ q.wr.bel q.wr.base).1;have G0:=kid0 (HC0.out _ q.wr.bel q.wr.base).2))
 all_goals(go_end0;exact q.done (by simp<;>rfl))
set_option maxRecDepth 100000 in
set_option maxHeartbeats 1000000 in
theorem p49_3s3 (hR:RP B w0 wb f) (hm:Mx B w0) (ht:Tab B w0) (hmm:m=3) (hnn:n=0) (hx:Nw B w0 (f+1) (nodeC 3 pos n m name (.slice ko kl kc)).toList):Wq B w0 wb 49 (nodeC 3 pos n m name (.slice ko kl kc)) (tok (f+1) w0 (nodeC 3 pos n m name (.slice ko kl kc)).toList):=by
 intro w ts0 h hf
 have hcap:=hx.cap
 obtain⟨vs,hkl,hr,hg,htok,hs,hc⟩:=hx.opened
 rw[htok] at hf⊢
 clear htok hx
 have hn:=NK.of hr hg (by unfold kidK frK;omega)
 obtain rfl:m=3:=hmm
 obtain rfl:n=0:=hnn
 have e:asm 3 0 3 (name:ByteArray).data.toList (vs.map (kdAt f w0))=pWhen true [[112,117,98]]++(pWhen true [[99,111,112,121]]++([[115,116,114,117,99,116],tl name]++(pAll (vs.map (kdAt f w0))++[]))):=by
  show pWhen ((3:Int)%2==1) [[112,117,98]]++pWhen (decide (2≤(3:Int))) [[99,111,112,121]]++([115,116,114,117,99,116]::tl name::pAll (vs.map (kdAt f w0)))=_;rw[List.append_nil];simp[pWhen]
 rw[e] at hf⊢
 clear e
 have q:=(Sp.start h hf).box (nodeC 3 pos 0 3 name (.slice ko kl kc))
 have HL:Hid (NK B w0 f ko vs∧vs.length=kl):=⟨hn,hkl⟩
 clear h hf hr hg hc hkl hcap hn
 have F:=q.f1
 go_enter Tryz.func49,Tryz.ntmps49
 go_wp2_with (first
  |(go_at_call 56;refine q.when (ss:=[⟨#[99,111,112,121]⟩]) ?_;clear q F;intro w2 q;have F:=q.f1)
  |(go_at_call 56;refine q.when (ss:=[⟨#[112,117,98]⟩]) ?_;clear q F;intro w2 q;have F:=q.f1)
  |(go_at_call 47;refine q.puts (ss:=[⟨#[115,116,114,117,99,116]⟩,name]) (hg:=by first|rfl|simp) (ho:=rfl) (hX:=rfl) (hn:=rfl) (hl:=by decide) ?_;clear q F;intro w2 q;have F:=q.f1)
  |(go_at_call 46;refine q.go (fun a1 a2=>nodes46 hR HL.out.1 HL.out.2 a1 a2) ?_;clear q F;intro w2 q;have F:=q.f1))
 all_goals(go_end0;exact q.done (by simp<;>rfl))
set_option maxRecDepth 100000 in
set_option maxHeartbeats 1000000 in
theorem p49_3e3 (hR:RP B w0 wb f) (hm:Mx B w0) (ht:Tab B w0) (hmm:m=3) (hnn:n=1) (hx:Nw B w0 (f+1) (nodeC 3 pos n m name (.slice ko kl kc)).toList):Wq B w0 wb 49 (nodeC 3 pos n m name (.slice ko kl kc)) (tok (f+1) w0 (nodeC 3 pos n m name (.slice ko kl kc)).toList):=by
 intro w ts0 h hf
 have hcap:=hx.cap
 obtain⟨vs,hkl,hr,hg,htok,hs,hc⟩:=hx.opened
 rw[htok] at hf⊢
 clear htok hx
 have hn:=NK.of hr hg (by unfold kidK frK;omega)
 obtain rfl:m=3:=hmm
 obtain rfl:n=1:=hnn
 have:kl≠0:=by
  obtain⟨-,⟨h0,-⟩|⟨-,zs,eks,-⟩⟩:=hg.data rfl
  ·omega
  ·have:=congrArg List.length eks
   simp at this;omega
 obtain⟨l1,rfl⟩:∃l1,kl=l1+1:=⟨kl - 1,by omega⟩
 obtain⟨c1,rfl⟩:∃c1,kc=c1+1:=⟨kc - 1,by omega⟩
 obtain⟨k0,p0,a0,b0,s0,o0,l0,c0,g,X0,Y0,Z0,e0,y0,z0,rfl,W0,WO0,WR0,C0⟩:=kid_p hR hn hc (i:=0) (by omega)
 obtain⟨us,hus⟩:∃us,us=vs.drop 1:=⟨_,rfl⟩
 have hul:us.length=l1:=by rw[hus,List.length_drop];omega
 have em:(vs.map (kdAt f w0)).drop 1=us.map (kdAt f w0):=by rw[hus,List.map_drop]
 have hb:=hn.row.few
 rw[hkl] at hb
 have e:asm 3 1 3 (name:ByteArray).data.toList (vs.map (kdAt f w0))=pWhen true [[112,117,98]]++(pWhen true [[99,111,112,121]]++([[101,110,117,109],tl name]++(X0++(pRow [123] [125] (us.map (kdAt f w0))++[])))):=by
  show pWhen ((3:Int)%2==1) [[112,117,98]]++pWhen (decide (2≤(3:Int))) [[99,111,112,121]]++([101,110,117,109]::tl name::((kd (vs.map (kdAt f w0)) 0).t++pRow [123] [125] ((vs.map (kdAt f w0)).drop 1)))=_;rw[e0,em,List.append_nil];simp[pWhen]
 rw[e] at hf⊢
 clear e
 have q:=(Sp.start h hf).box (nodeC 3 pos 1 3 name (.slice (some ⟨g,0,none⟩) (l1+1) (c1+1)))
 have HW0:Hid (Wq B w0 wb 14 (nodeC k0 p0 a0 b0 s0 (.slice o0 l0 c0)) X0):=W0
 have HC0:Hid (∀W,Below B w0 W→B≤W.heap.size→g<W.heap.size∧∀j,j<11→W.cell? ⟨g,0*11+j,none⟩=(nodeC k0 p0 a0 b0 s0 (.slice o0 l0 c0)).toList[j]?):=C0
 have HL:Hid (NK B w0 f (some ⟨g,11,none⟩) us∧us.length=l1):=⟨by have:=hn.drop 1;rw[←hus] at this;simpa using this,hul⟩
 have HZ:Hid (∀a,c1=0→NK B w0 f a us):=fun a hz=>by
  obtain rfl:us=[]:=List.eq_nil_of_length_eq_zero (by omega)
  exact NK.nil
 have hbI:(l1:Int)+1≤20000:=by omega
 have hcI:(l1:Int)≤(c1:Int):=by omega
 clear e0 y0 z0 W0 WO0 WR0 C0
 clear h hf hr hg hc hkl hcap hn hus hul em hb
 have F:=q.f1
 have lg:=(HC0.out _ q.wr.bel q.wr.base).1
 have G0:=kid0 (HC0.out _ q.wr.bel q.wr.base).2
 go_enter Tryz.func49,Tryz.ntmps49
 go_wp2_with (first
  |(go_at_call 56;refine q.when (ss:=[⟨#[99,111,112,121]⟩]) ?_;clear q F lg G0;intro w2 q;have F:=q.f1;have lg:=(HC0.out _ q.wr.bel q.wr.base).1;have G0:=kid0 (HC0.out _ q.wr.bel q.wr.base).2)
  |(go_at_call 56;refine q.when (ss:=[⟨#[112,117,98]⟩]) ?_;clear q F lg G0;intro w2 q;have F:=q.f1;have lg:=(HC0.out _ q.wr.bel q.wr.base).1;have G0:=kid0 (HC0.out _ q.wr.bel q.wr.base).2)
  |(go_at_call 47;refine q.puts (ss:=[⟨#[101,110,117,109]⟩,name]) (hg:=by first|rfl|simp) (ho:=rfl) (hX:=rfl) (hn:=rfl) (hl:=by decide) ?_;clear q F lg G0;intro w2 q;have F:=q.f1;have lg:=(HC0.out _ q.wr.bel q.wr.base).1;have G0:=kid0 (HC0.out _ q.wr.bel q.wr.base).2)
  |(go_at_call 58;refine q.go (fun a1 a2=>row58 hR ⟨#[123]⟩ ⟨#[125]⟩ (HZ.out _ (by first|rfl|assumption|omega)) HL.out.2 a1 a2) ?_;clear q F lg G0;intro w2 q;have F:=q.f1;have lg:=(HC0.out _ q.wr.bel q.wr.base).1;have G0:=kid0 (HC0.out _ q.wr.bel q.wr.base).2)
  |(go_at_call 58;refine q.go (fun a1 a2=>row58 hR ⟨#[123]⟩ ⟨#[125]⟩ HL.out.1 HL.out.2 a1 a2) ?_;clear q F lg G0;intro w2 q;have F:=q.f1;have lg:=(HC0.out _ q.wr.bel q.wr.base).1;have G0:=kid0 (HC0.out _ q.wr.bel q.wr.base).2)
  |(go_at_call 14;refine q.go (fun a1 a2=>HW0.out a1 a2) ?_;clear q F lg G0;intro w2 q;have F:=q.f1;have lg:=(HC0.out _ q.wr.bel q.wr.base).1;have G0:=kid0 (HC0.out _ q.wr.bel q.wr.base).2))
 all_goals(go_end0;exact q.done (by simp<;>rfl))
set_option maxRecDepth 100000 in
set_option maxHeartbeats 1000000 in
theorem p50_4a (hR:RP B w0 wb f) (hm:Mx B w0) (ht:Tab B w0) (hnm:(name.data.toList.length !=0)=false) (hx:Nw B w0 (f+1) (nodeC 4 pos n m name (.slice ko kl kc)).toList):Wq B w0 wb 50 (nodeC 4 pos n m name (.slice ko kl kc)) (tok (f+1) w0 (nodeC 4 pos n m name (.slice ko kl kc)).toList):=by
 intro w ts0 h hf
 have hcap:=hx.cap
 obtain⟨vs,hkl,hr,hg,htok,hs,hc⟩:=hx.opened
 rw[htok] at hf⊢
 clear htok hx
 have hn:=NK.of hr hg (by unfold kidK frK;omega)
 replace hnm:(name.data.toList.length !=0)=false:=hnm
 obtain rfl:=nm_empty hnm
 have e:asm 4 n m (⟨#[]⟩:ByteArray).data.toList (vs.map (kdAt f w0))=pRow [123] [125] (vs.map (kdAt f w0))++[]:=by
  rw[List.append_nil];rfl
 rw[e] at hf⊢
 clear e
 have q:=(Sp.start h hf).box (nodeC 4 pos n m ⟨#[]⟩ (.slice ko kl kc))
 have HL:Hid (NK B w0 f ko vs∧vs.length=kl):=⟨hn,hkl⟩
 clear h hf hr hg hc hkl hcap hn hnm
 have F:=q.f1
 go_enter Tryz.func50,Tryz.ntmps50
 go_wp2_with (first
  |(go_at_call 58;refine q.go (fun a1 a2=>row58 hR ⟨#[123]⟩ ⟨#[125]⟩ HL.out.1 HL.out.2 a1 a2) ?_;clear q F;intro w2 q;have F:=q.f1))
 all_goals(go_end0;exact q.done (by simp<;>rfl))
set_option maxRecDepth 100000 in
set_option maxHeartbeats 1000000 in
theorem p50_4b (hR:RP B w0 wb f) (hm:Mx B w0) (ht:Tab B w0) (hnm:(name.data.toList.length !=0)=true) (hz0:kl=0) (hx:Nw B w0 (f+1) (nodeC 4 pos n m name (.slice ko kl kc)).toList):Wq B w0 wb 50 (nodeC 4 pos n m name (.slice ko kl kc)) (tok (f+1) w0 (nodeC 4 pos n m name (.slice ko kl kc)).toList):=by
 intro w ts0 h hf
 have hcap:=hx.cap
 obtain⟨vs,hkl,hr,hg,htok,hs,hc⟩:=hx.opened
 rw[htok] at hf⊢
 clear htok hx
 have hn:=NK.of hr hg (by unfold kidK frK;omega)
 replace hnm:(name.data.toList.length !=0)=true:=hnm
 have hne:=nm_some hnm
 have hn1:¬(tl name).length=0:=by simpa[tl] using hnm
 obtain rfl:kl=0:=hz0
 have e:asm 4 n m (name:ByteArray).data.toList (vs.map (kdAt f w0))=tl name::[]:=by
  show(if(tl name).length=0 then _ else tl name::pRnd (vs.map (kdAt f w0)))=_;rw[if_neg hn1,pRnd,if_pos (by rw[List.length_map];exact hkl)]
 rw[e] at hf⊢
 clear e
 have q:=(Sp.start h hf).box (nodeC 4 pos n m name (.slice ko 0 kc))
 clear h hf hr hg hc hkl hcap hn hnm hn1
 have F:=q.f1
 go_enter Tryz.func50,Tryz.ntmps50
 go_wp2_with (first
  |(go_at_call 47;refine q.put ?_;clear q F;intro w2 q;have F:=q.f1))
 all_goals(go_end0;exact q.done (by simp<;>rfl))
set_option maxRecDepth 100000 in
set_option maxHeartbeats 1000000 in
theorem p50_4c (hR:RP B w0 wb f) (hm:Mx B w0) (ht:Tab B w0) (hnm:(name.data.toList.length !=0)=true) (hz0:0<kl) (hx:Nw B w0 (f+1) (nodeC 4 pos n m name (.slice ko kl kc)).toList):Wq B w0 wb 50 (nodeC 4 pos n m name (.slice ko kl kc)) (tok (f+1) w0 (nodeC 4 pos n m name (.slice ko kl kc)).toList):=by
 intro w ts0 h hf
 have hcap:=hx.cap
 obtain⟨vs,hkl,hr,hg,htok,hs,hc⟩:=hx.opened
 rw[htok] at hf⊢
 clear htok hx
 have hn:=NK.of hr hg (by unfold kidK frK;omega)
 replace hnm:(name.data.toList.length !=0)=true:=hnm
 have hne:=nm_some hnm
 have hn1:¬(tl name).length=0:=by simpa[tl] using hnm
 have hI:(0:Int)<(kl:Int):=by omega
 have e:asm 4 n m (name:ByteArray).data.toList (vs.map (kdAt f w0))=tl name::(pRow [40] [41] (vs.map (kdAt f w0))++[]):=by
  show(if(tl name).length=0 then _ else tl name::pRnd (vs.map (kdAt f w0)))=_;rw[if_neg hn1,pRnd,if_neg (by rw[List.length_map];omega),List.append_nil]
 rw[e] at hf⊢
 clear e
 have q:=(Sp.start h hf).box (nodeC 4 pos n m name (.slice ko kl kc))
 have HL:Hid (NK B w0 f ko vs∧vs.length=kl):=⟨hn,hkl⟩
 clear h hf hr hg hc hkl hcap hn hnm hn1 hz0
 have F:=q.f1
 go_enter Tryz.func50,Tryz.ntmps50
 go_wp2_with (first
  |(go_at_call 47;refine q.put ?_;clear q F;intro w2 q;have F:=q.f1)
  |(go_at_call 58;refine q.go (fun a1 a2=>row58 hR ⟨#[40]⟩ ⟨#[41]⟩ HL.out.1 HL.out.2 a1 a2) ?_;clear q F;intro w2 q;have F:=q.f1))
 all_goals(go_end0;exact q.done (by simp<;>rfl))
set_option maxRecDepth 100000 in
set_option maxHeartbeats 1000000 in
theorem p51_5ff (hR:RP B w0 wb f) (hm:Mx B w0) (ht:Tab B w0) (hm1:(m==1)=false) (hnm:(name.data.toList.length !=0)=false) (hx:Nw B w0 (f+1) (nodeC 5 pos n m name (.slice ko kl kc)).toList):Wq B w0 wb 51 (nodeC 5 pos n m name (.slice ko kl kc)) (tok (f+1) w0 (nodeC 5 pos n m name (.slice ko kl kc)).toList):=by
 intro w ts0 h hf
 have hcap:=hx.cap
 obtain⟨vs,hkl,hr,hg,htok,hs,hc⟩:=hx.opened
 rw[htok] at hf⊢
 clear htok hx
 have hn:=NK.of hr hg (by unfold kidK frK;omega)
 replace hm1:(m==1)=false:=hm1
 replace hnm:(name.data.toList.length !=0)=false:=hnm
 obtain rfl:=nm_empty hnm
 have e:asm 5 n m (⟨#[]⟩:ByteArray).data.toList (vs.map (kdAt f w0))=pWhen false [[112,117,98]]++(pWhen false [[109,117,116]]++(pWhen false [(tl ⟨#[]⟩),[58]]++(pAll (vs.map (kdAt f w0))++[]))):=by
  show pWhen (m==1) [[112,117,98]]++(pWhen ((tl ⟨#[]⟩).length !=0) [(tl ⟨#[]⟩),[58]]++pAll (vs.map (kdAt f w0)))=_;rw[show((tl ⟨#[]⟩).length !=0)=false from rfl,show((m:Int)==1)=false from hm1,List.append_nil];simp[pWhen]
 rw[e] at hf⊢
 clear e
 have q:=(Sp.start h hf).box (nodeC 5 pos n m ⟨#[]⟩ (.slice ko kl kc))
 have HL:Hid (NK B w0 f ko vs∧vs.length=kl):=⟨hn,hkl⟩
 clear h hf hr hg hc hkl hcap hn hnm
 have F:=q.f1
 go_enter Tryz.func51,Tryz.ntmps51
 go_wp2_with (first
  |(go_at_call 56;refine q.when (ss:=[⟨#[]⟩,⟨#[58]⟩]) ?_;clear q F;intro w2 q;have F:=q.f1)
  |(go_at_call 56;refine q.when (ss:=[⟨#[109,117,116]⟩]) ?_;clear q F;intro w2 q;have F:=q.f1)
  |(go_at_call 56;refine q.when (ss:=[⟨#[112,117,98]⟩]) ?_;clear q F;intro w2 q;have F:=q.f1)
  |(go_at_call 46;refine q.go (fun a1 a2=>nodes46 hR HL.out.1 HL.out.2 a1 a2) ?_;clear q F;intro w2 q;have F:=q.f1))
 all_goals(go_end0;exact q.done (by simp<;>rfl))
set_option maxRecDepth 100000 in
set_option maxHeartbeats 1000000 in
theorem p51_5ft (hR:RP B w0 wb f) (hm:Mx B w0) (ht:Tab B w0) (hm1:(m==1)=false) (hnm:(name.data.toList.length !=0)=true) (hx:Nw B w0 (f+1) (nodeC 5 pos n m name (.slice ko kl kc)).toList):Wq B w0 wb 51 (nodeC 5 pos n m name (.slice ko kl kc)) (tok (f+1) w0 (nodeC 5 pos n m name (.slice ko kl kc)).toList):=by
 intro w ts0 h hf
 have hcap:=hx.cap
 obtain⟨vs,hkl,hr,hg,htok,hs,hc⟩:=hx.opened
 rw[htok] at hf⊢
 clear htok hx
 have hn:=NK.of hr hg (by unfold kidK frK;omega)
 replace hm1:(m==1)=false:=hm1
 replace hnm:(name.data.toList.length !=0)=true:=hnm
 have hne:=nm_some hnm
 have e:asm 5 n m (name:ByteArray).data.toList (vs.map (kdAt f w0))=pWhen false [[112,117,98]]++(pWhen false [[109,117,116]]++(pWhen true [(tl name),[58]]++(pAll (vs.map (kdAt f w0))++[]))):=by
  show pWhen (m==1) [[112,117,98]]++(pWhen ((tl name).length !=0) [(tl name),[58]]++pAll (vs.map (kdAt f w0)))=_;rw[show((tl name).length !=0)=true from hnm,show((m:Int)==1)=false from hm1,List.append_nil];simp[pWhen]
 rw[e] at hf⊢
 clear e
 have q:=(Sp.start h hf).box (nodeC 5 pos n m name (.slice ko kl kc))
 have HL:Hid (NK B w0 f ko vs∧vs.length=kl):=⟨hn,hkl⟩
 clear h hf hr hg hc hkl hcap hn hnm
 have F:=q.f1
 go_enter Tryz.func51,Tryz.ntmps51
 go_wp2_with (first
  |(go_at_call 56;refine q.when (ss:=[name,⟨#[58]⟩]) ?_;clear q F;intro w2 q;have F:=q.f1)
  |(go_at_call 56;refine q.when (ss:=[⟨#[109,117,116]⟩]) ?_;clear q F;intro w2 q;have F:=q.f1)
  |(go_at_call 56;refine q.when (ss:=[⟨#[112,117,98]⟩]) ?_;clear q F;intro w2 q;have F:=q.f1)
  |(go_at_call 46;refine q.go (fun a1 a2=>nodes46 hR HL.out.1 HL.out.2 a1 a2) ?_;clear q F;intro w2 q;have F:=q.f1))
 all_goals(go_end0;exact q.done (by simp<;>rfl))
set_option maxRecDepth 100000 in
set_option maxHeartbeats 1000000 in
theorem p51_5tf (hR:RP B w0 wb f) (hm:Mx B w0) (ht:Tab B w0) (hm1:(m==1)=true) (hnm:(name.data.toList.length !=0)=false) (hx:Nw B w0 (f+1) (nodeC 5 pos n m name (.slice ko kl kc)).toList):Wq B w0 wb 51 (nodeC 5 pos n m name (.slice ko kl kc)) (tok (f+1) w0 (nodeC 5 pos n m name (.slice ko kl kc)).toList):=by
 intro w ts0 h hf
 have hcap:=hx.cap
 obtain⟨vs,hkl,hr,hg,htok,hs,hc⟩:=hx.opened
 rw[htok] at hf⊢
 clear htok hx
 have hn:=NK.of hr hg (by unfold kidK frK;omega)
 obtain rfl:m=1:=by simpa using hm1
 replace hnm:(name.data.toList.length !=0)=false:=hnm
 obtain rfl:=nm_empty hnm
 have e:asm 5 n 1 (⟨#[]⟩:ByteArray).data.toList (vs.map (kdAt f w0))=pWhen true [[112,117,98]]++(pWhen false [[109,117,116]]++(pWhen false [(tl ⟨#[]⟩),[58]]++(pAll (vs.map (kdAt f w0))++[]))):=by
  show pWhen (1==1) [[112,117,98]]++(pWhen ((tl ⟨#[]⟩).length !=0) [(tl ⟨#[]⟩),[58]]++pAll (vs.map (kdAt f w0)))=_;rw[show((tl ⟨#[]⟩).length !=0)=false from rfl,show((1:Int)==1)=true from rfl,List.append_nil];simp[pWhen]
 rw[e] at hf⊢
 clear e
 have q:=(Sp.start h hf).box (nodeC 5 pos n 1 ⟨#[]⟩ (.slice ko kl kc))
 have HL:Hid (NK B w0 f ko vs∧vs.length=kl):=⟨hn,hkl⟩
 clear h hf hr hg hc hkl hcap hn hnm
 have F:=q.f1
 go_enter Tryz.func51,Tryz.ntmps51
 go_wp2_with (first
  |(go_at_call 56;refine q.when (ss:=[⟨#[]⟩,⟨#[58]⟩]) ?_;clear q F;intro w2 q;have F:=q.f1)
  |(go_at_call 56;refine q.when (ss:=[⟨#[109,117,116]⟩]) ?_;clear q F;intro w2 q;have F:=q.f1)
  |(go_at_call 56;refine q.when (ss:=[⟨#[112,117,98]⟩]) ?_;clear q F;intro w2 q;have F:=q.f1)
  |(go_at_call 46;refine q.go (fun a1 a2=>nodes46 hR HL.out.1 HL.out.2 a1 a2) ?_;clear q F;intro w2 q;have F:=q.f1))
 all_goals(go_end0;exact q.done (by simp<;>rfl))
set_option maxRecDepth 100000 in
set_option maxHeartbeats 1000000 in
theorem p51_5tt (hR:RP B w0 wb f) (hm:Mx B w0) (ht:Tab B w0) (hm1:(m==1)=true) (hnm:(name.data.toList.length !=0)=true) (hx:Nw B w0 (f+1) (nodeC 5 pos n m name (.slice ko kl kc)).toList):Wq B w0 wb 51 (nodeC 5 pos n m name (.slice ko kl kc)) (tok (f+1) w0 (nodeC 5 pos n m name (.slice ko kl kc)).toList):=by
 intro w ts0 h hf
 have hcap:=hx.cap
 obtain⟨vs,hkl,hr,hg,htok,hs,hc⟩:=hx.opened
 rw[htok] at hf⊢
 clear htok hx
 have hn:=NK.of hr hg (by unfold kidK frK;omega)
 obtain rfl:m=1:=by simpa using hm1
 replace hnm:(name.data.toList.length !=0)=true:=hnm
 have hne:=nm_some hnm
 have e:asm 5 n 1 (name:ByteArray).data.toList (vs.map (kdAt f w0))=pWhen true [[112,117,98]]++(pWhen false [[109,117,116]]++(pWhen true [(tl name),[58]]++(pAll (vs.map (kdAt f w0))++[]))):=by
  show pWhen (1==1) [[112,117,98]]++(pWhen ((tl name).length !=0) [(tl name),[58]]++pAll (vs.map (kdAt f w0)))=_;rw[show((tl name).length !=0)=true from hnm,show((1:Int)==1)=true from rfl,List.append_nil];simp[pWhen]
 rw[e] at hf⊢
 clear e
 have q:=(Sp.start h hf).box (nodeC 5 pos n 1 name (.slice ko kl kc))
 have HL:Hid (NK B w0 f ko vs∧vs.length=kl):=⟨hn,hkl⟩
 clear h hf hr hg hc hkl hcap hn hnm
 have F:=q.f1
 go_enter Tryz.func51,Tryz.ntmps51
 go_wp2_with (first
  |(go_at_call 56;refine q.when (ss:=[name,⟨#[58]⟩]) ?_;clear q F;intro w2 q;have F:=q.f1)
  |(go_at_call 56;refine q.when (ss:=[⟨#[109,117,116]⟩]) ?_;clear q F;intro w2 q;have F:=q.f1)
  |(go_at_call 56;refine q.when (ss:=[⟨#[112,117,98]⟩]) ?_;clear q F;intro w2 q;have F:=q.f1)
  |(go_at_call 46;refine q.go (fun a1 a2=>nodes46 hR HL.out.1 HL.out.2 a1 a2) ?_;clear q F;intro w2 q;have F:=q.f1))
 all_goals(go_end0;exact q.done (by simp<;>rfl))
set_option maxRecDepth 100000 in
set_option maxHeartbeats 1000000 in
theorem p51_12ff (hR:RP B w0 wb f) (hm:Mx B w0) (ht:Tab B w0) (hm1:(m==1)=false) (hnm:(name.data.toList.length !=0)=false) (hx:Nw B w0 (f+1) (nodeC 12 pos n m name (.slice ko kl kc)).toList):Wq B w0 wb 51 (nodeC 12 pos n m name (.slice ko kl kc)) (tok (f+1) w0 (nodeC 12 pos n m name (.slice ko kl kc)).toList):=by
 intro w ts0 h hf
 have hcap:=hx.cap
 obtain⟨vs,hkl,hr,hg,htok,hs,hc⟩:=hx.opened
 rw[htok] at hf⊢
 clear htok hx
 have hn:=NK.of hr hg (by unfold kidK frK;omega)
 replace hm1:(m==1)=false:=hm1
 replace hnm:(name.data.toList.length !=0)=false:=hnm
 obtain rfl:=nm_empty hnm
 have e:asm 12 n m (⟨#[]⟩:ByteArray).data.toList (vs.map (kdAt f w0))=pWhen false [[112,117,98]]++(pWhen false [[109,117,116]]++(pWhen false [(tl ⟨#[]⟩),[58]]++(pAll (vs.map (kdAt f w0))++[]))):=by
  show pWhen (m==1) [[109,117,116]]++(pWhen ((tl ⟨#[]⟩).length !=0) [(tl ⟨#[]⟩),[58]]++pAll (vs.map (kdAt f w0)))=_;rw[show((tl ⟨#[]⟩).length !=0)=false from rfl,show((m:Int)==1)=false from hm1,List.append_nil];simp[pWhen]
 rw[e] at hf⊢
 clear e
 have q:=(Sp.start h hf).box (nodeC 12 pos n m ⟨#[]⟩ (.slice ko kl kc))
 have HL:Hid (NK B w0 f ko vs∧vs.length=kl):=⟨hn,hkl⟩
 clear h hf hr hg hc hkl hcap hn hnm
 have F:=q.f1
 go_enter Tryz.func51,Tryz.ntmps51
 go_wp2_with (first
  |(go_at_call 56;refine q.when (ss:=[⟨#[]⟩,⟨#[58]⟩]) ?_;clear q F;intro w2 q;have F:=q.f1)
  |(go_at_call 56;refine q.when (ss:=[⟨#[109,117,116]⟩]) ?_;clear q F;intro w2 q;have F:=q.f1)
  |(go_at_call 56;refine q.when (ss:=[⟨#[112,117,98]⟩]) ?_;clear q F;intro w2 q;have F:=q.f1)
  |(go_at_call 46;refine q.go (fun a1 a2=>nodes46 hR HL.out.1 HL.out.2 a1 a2) ?_;clear q F;intro w2 q;have F:=q.f1))
 all_goals(go_end0;exact q.done (by simp<;>rfl))
set_option maxRecDepth 100000 in
set_option maxHeartbeats 1000000 in
theorem p51_12ft (hR:RP B w0 wb f) (hm:Mx B w0) (ht:Tab B w0) (hm1:(m==1)=false) (hnm:(name.data.toList.length !=0)=true) (hx:Nw B w0 (f+1) (nodeC 12 pos n m name (.slice ko kl kc)).toList):Wq B w0 wb 51 (nodeC 12 pos n m name (.slice ko kl kc)) (tok (f+1) w0 (nodeC 12 pos n m name (.slice ko kl kc)).toList):=by
 intro w ts0 h hf
 have hcap:=hx.cap
 obtain⟨vs,hkl,hr,hg,htok,hs,hc⟩:=hx.opened
 rw[htok] at hf⊢
 clear htok hx
 have hn:=NK.of hr hg (by unfold kidK frK;omega)
 replace hm1:(m==1)=false:=hm1
 replace hnm:(name.data.toList.length !=0)=true:=hnm
 have hne:=nm_some hnm
 have e:asm 12 n m (name:ByteArray).data.toList (vs.map (kdAt f w0))=pWhen false [[112,117,98]]++(pWhen false [[109,117,116]]++(pWhen true [(tl name),[58]]++(pAll (vs.map (kdAt f w0))++[]))):=by
  show pWhen (m==1) [[109,117,116]]++(pWhen ((tl name).length !=0) [(tl name),[58]]++pAll (vs.map (kdAt f w0)))=_;rw[show((tl name).length !=0)=true from hnm,show((m:Int)==1)=false from hm1,List.append_nil];simp[pWhen]
 rw[e] at hf⊢
 clear e
 have q:=(Sp.start h hf).box (nodeC 12 pos n m name (.slice ko kl kc))
 have HL:Hid (NK B w0 f ko vs∧vs.length=kl):=⟨hn,hkl⟩
 clear h hf hr hg hc hkl hcap hn hnm
 have F:=q.f1
 go_enter Tryz.func51,Tryz.ntmps51
 go_wp2_with (first
  |(go_at_call 56;refine q.when (ss:=[name,⟨#[58]⟩]) ?_;clear q F;intro w2 q;have F:=q.f1)
  |(go_at_call 56;refine q.when (ss:=[⟨#[109,117,116]⟩]) ?_;clear q F;intro w2 q;have F:=q.f1)
  |(go_at_call 56;refine q.when (ss:=[⟨#[112,117,98]⟩]) ?_;clear q F;intro w2 q;have F:=q.f1)
  |(go_at_call 46;refine q.go (fun a1 a2=>nodes46 hR HL.out.1 HL.out.2 a1 a2) ?_;clear q F;intro w2 q;have F:=q.f1))
 all_goals(go_end0;exact q.done (by simp<;>rfl))
set_option maxRecDepth 100000 in
set_option maxHeartbeats 1000000 in
theorem p51_12tf (hR:RP B w0 wb f) (hm:Mx B w0) (ht:Tab B w0) (hm1:(m==1)=true) (hnm:(name.data.toList.length !=0)=false) (hx:Nw B w0 (f+1) (nodeC 12 pos n m name (.slice ko kl kc)).toList):Wq B w0 wb 51 (nodeC 12 pos n m name (.slice ko kl kc)) (tok (f+1) w0 (nodeC 12 pos n m name (.slice ko kl kc)).toList):=by
 intro w ts0 h hf
 have hcap:=hx.cap
 obtain⟨vs,hkl,hr,hg,htok,hs,hc⟩:=hx.opened
 rw[htok] at hf⊢
 clear htok hx
 have hn:=NK.of hr hg (by unfold kidK frK;omega)
 obtain rfl:m=1:=by simpa using hm1
 replace hnm:(name.data.toList.length !=0)=false:=hnm
 obtain rfl:=nm_empty hnm
 have e:asm 12 n 1 (⟨#[]⟩:ByteArray).data.toList (vs.map (kdAt f w0))=pWhen false [[112,117,98]]++(pWhen true [[109,117,116]]++(pWhen false [(tl ⟨#[]⟩),[58]]++(pAll (vs.map (kdAt f w0))++[]))):=by
  show pWhen (1==1) [[109,117,116]]++(pWhen ((tl ⟨#[]⟩).length !=0) [(tl ⟨#[]⟩),[58]]++pAll (vs.map (kdAt f w0)))=_;rw[show((tl ⟨#[]⟩).length !=0)=false from rfl,show((1:Int)==1)=true from rfl,List.append_nil];simp[pWhen]
 rw[e] at hf⊢
 clear e
 have q:=(Sp.start h hf).box (nodeC 12 pos n 1 ⟨#[]⟩ (.slice ko kl kc))
 have HL:Hid (NK B w0 f ko vs∧vs.length=kl):=⟨hn,hkl⟩
 clear h hf hr hg hc hkl hcap hn hnm
 have F:=q.f1
 go_enter Tryz.func51,Tryz.ntmps51
 go_wp2_with (first
  |(go_at_call 56;refine q.when (ss:=[⟨#[]⟩,⟨#[58]⟩]) ?_;clear q F;intro w2 q;have F:=q.f1)
  |(go_at_call 56;refine q.when (ss:=[⟨#[109,117,116]⟩]) ?_;clear q F;intro w2 q;have F:=q.f1)
  |(go_at_call 56;refine q.when (ss:=[⟨#[112,117,98]⟩]) ?_;clear q F;intro w2 q;have F:=q.f1)
  |(go_at_call 46;refine q.go (fun a1 a2=>nodes46 hR HL.out.1 HL.out.2 a1 a2) ?_;clear q F;intro w2 q;have F:=q.f1))
 all_goals(go_end0;exact q.done (by simp<;>rfl))
set_option maxRecDepth 100000 in
set_option maxHeartbeats 1000000 in
theorem p51_12tt (hR:RP B w0 wb f) (hm:Mx B w0) (ht:Tab B w0) (hm1:(m==1)=true) (hnm:(name.data.toList.length !=0)=true) (hx:Nw B w0 (f+1) (nodeC 12 pos n m name (.slice ko kl kc)).toList):Wq B w0 wb 51 (nodeC 12 pos n m name (.slice ko kl kc)) (tok (f+1) w0 (nodeC 12 pos n m name (.slice ko kl kc)).toList):=by
 intro w ts0 h hf
 have hcap:=hx.cap
 obtain⟨vs,hkl,hr,hg,htok,hs,hc⟩:=hx.opened
 rw[htok] at hf⊢
 clear htok hx
 have hn:=NK.of hr hg (by unfold kidK frK;omega)
 obtain rfl:m=1:=by simpa using hm1
 replace hnm:(name.data.toList.length !=0)=true:=hnm
 have hne:=nm_some hnm
 have e:asm 12 n 1 (name:ByteArray).data.toList (vs.map (kdAt f w0))=pWhen false [[112,117,98]]++(pWhen true [[109,117,116]]++(pWhen true [(tl name),[58]]++(pAll (vs.map (kdAt f w0))++[]))):=by
  show pWhen (1==1) [[109,117,116]]++(pWhen ((tl name).length !=0) [(tl name),[58]]++pAll (vs.map (kdAt f w0)))=_;rw[show((tl name).length !=0)=true from hnm,show((1:Int)==1)=true from rfl,List.append_nil];simp[pWhen]
 rw[e] at hf⊢
 clear e
 have q:=(Sp.start h hf).box (nodeC 12 pos n 1 name (.slice ko kl kc))
 have HL:Hid (NK B w0 f ko vs∧vs.length=kl):=⟨hn,hkl⟩
 clear h hf hr hg hc hkl hcap hn hnm
 have F:=q.f1
 go_enter Tryz.func51,Tryz.ntmps51
 go_wp2_with (first
  |(go_at_call 56;refine q.when (ss:=[name,⟨#[58]⟩]) ?_;clear q F;intro w2 q;have F:=q.f1)
  |(go_at_call 56;refine q.when (ss:=[⟨#[109,117,116]⟩]) ?_;clear q F;intro w2 q;have F:=q.f1)
  |(go_at_call 56;refine q.when (ss:=[⟨#[112,117,98]⟩]) ?_;clear q F;intro w2 q;have F:=q.f1)
  |(go_at_call 46;refine q.go (fun a1 a2=>nodes46 hR HL.out.1 HL.out.2 a1 a2) ?_;clear q F;intro w2 q;have F:=q.f1))
 all_goals(go_end0;exact q.done (by simp<;>rfl))
set_option maxRecDepth 100000 in
set_option maxHeartbeats 1000000 in
theorem d24_3 {T:List (List UInt8)} (HP:Wq B w0 wb 49 (nodeC 3 pos n m name (.slice ko kl kc)) T):Wq B w0 wb 24 (nodeC 3 pos n m name (.slice ko kl kc)) T:=by
 intro w ts0 h hf
 have q:=((Sp.start h hf).as (rest':=T++[]) (by simp)).box (nodeC 3 pos n m name (.slice ko kl kc))
 have H:Hid (Wq B w0 wb 49 (nodeC 3 pos n m name (.slice ko kl kc)) T):=HP
 clear h hf HP
 have F:=q.f1
 go_enter Tryz.func24,Tryz.ntmps24
 go_wp2_with (go_at_call 49;refine q.go (fun a1 a2=>H.out a1 a2) ?_;clear q F;intro w2 q;have F:=q.f1)
 go_end0
 exact q.done (by simp)
set_option maxRecDepth 100000 in
set_option maxHeartbeats 1000000 in
theorem d24_4 {T:List (List UInt8)} (HP:Wq B w0 wb 50 (nodeC 4 pos n m name (.slice ko kl kc)) T):Wq B w0 wb 24 (nodeC 4 pos n m name (.slice ko kl kc)) T:=by
 intro w ts0 h hf
 have q:=((Sp.start h hf).as (rest':=T++[]) (by simp)).box (nodeC 4 pos n m name (.slice ko kl kc))
 have H:Hid (Wq B w0 wb 50 (nodeC 4 pos n m name (.slice ko kl kc)) T):=HP
 clear h hf HP
 have F:=q.f1
 go_enter Tryz.func24,Tryz.ntmps24
 go_wp2_with (go_at_call 50;refine q.go (fun a1 a2=>H.out a1 a2) ?_;clear q F;intro w2 q;have F:=q.f1)
 go_end0
 exact q.done (by simp)
set_option maxRecDepth 100000 in
set_option maxHeartbeats 1000000 in
theorem d24_5 {T:List (List UInt8)} (HP:Wq B w0 wb 51 (nodeC 5 pos n m name (.slice ko kl kc)) T):Wq B w0 wb 24 (nodeC 5 pos n m name (.slice ko kl kc)) T:=by
 intro w ts0 h hf
 have q:=((Sp.start h hf).as (rest':=T++[]) (by simp)).box (nodeC 5 pos n m name (.slice ko kl kc))
 have H:Hid (Wq B w0 wb 51 (nodeC 5 pos n m name (.slice ko kl kc)) T):=HP
 clear h hf HP
 have F:=q.f1
 go_enter Tryz.func24,Tryz.ntmps24
 go_wp2_with (go_at_call 51;refine q.go (fun a1 a2=>H.out a1 a2) ?_;clear q F;intro w2 q;have F:=q.f1)
 go_end0
 exact q.done (by simp)
set_option maxRecDepth 100000 in
set_option maxHeartbeats 1000000 in
theorem d24_12 {T:List (List UInt8)} (HP:Wq B w0 wb 51 (nodeC 12 pos n m name (.slice ko kl kc)) T):Wq B w0 wb 24 (nodeC 12 pos n m name (.slice ko kl kc)) T:=by
 intro w ts0 h hf
 have q:=((Sp.start h hf).as (rest':=T++[]) (by simp)).box (nodeC 12 pos n m name (.slice ko kl kc))
 have H:Hid (Wq B w0 wb 51 (nodeC 12 pos n m name (.slice ko kl kc)) T):=HP
 clear h hf HP
 have F:=q.f1
 go_enter Tryz.func24,Tryz.ntmps24
 go_wp2_with (go_at_call 51;refine q.go (fun a1 a2=>H.out a1 a2) ?_;clear q F;intro w2 q;have F:=q.f1)
 go_end0
 exact q.done (by simp)
set_option maxRecDepth 100000 in
set_option maxHeartbeats 1000000 in
theorem d24_6 {T:List (List UInt8)} (HP:Wq B w0 wb 52 (nodeC 6 pos n m name (.slice ko kl kc)) T):Wq B w0 wb 24 (nodeC 6 pos n m name (.slice ko kl kc)) T:=by
 intro w ts0 h hf
 have q:=((Sp.start h hf).as (rest':=T++[]) (by simp)).box (nodeC 6 pos n m name (.slice ko kl kc))
 have H:Hid (Wq B w0 wb 52 (nodeC 6 pos n m name (.slice ko kl kc)) T):=HP
 clear h hf HP
 have F:=q.f1
 go_enter Tryz.func24,Tryz.ntmps24
 go_wp2_with (go_at_call 52;refine q.go (fun a1 a2=>H.out a1 a2) ?_;clear q F;intro w2 q;have F:=q.f1)
 go_end0
 exact q.done (by simp)
set_option maxRecDepth 100000 in
set_option maxHeartbeats 1000000 in
theorem d24_7 {T:List (List UInt8)} (HP:Wq B w0 wb 53 (nodeC 7 pos n m name (.slice ko kl kc)) T):Wq B w0 wb 24 (nodeC 7 pos n m name (.slice ko kl kc)) T:=by
 intro w ts0 h hf
 have q:=((Sp.start h hf).as (rest':=T++[]) (by simp)).box (nodeC 7 pos n m name (.slice ko kl kc))
 have H:Hid (Wq B w0 wb 53 (nodeC 7 pos n m name (.slice ko kl kc)) T):=HP
 clear h hf HP
 have F:=q.f1
 go_enter Tryz.func24,Tryz.ntmps24
 go_wp2_with (go_at_call 53;refine q.go (fun a1 a2=>H.out a1 a2) ?_;clear q F;intro w2 q;have F:=q.f1)
 go_end0
 exact q.done (by simp)
set_option maxRecDepth 100000 in
set_option maxHeartbeats 1000000 in
theorem d24_8 {T:List (List UInt8)} (HP:Wq B w0 wb 54 (nodeC 8 pos n m name (.slice ko kl kc)) T):Wq B w0 wb 24 (nodeC 8 pos n m name (.slice ko kl kc)) T:=by
 intro w ts0 h hf
 have q:=((Sp.start h hf).as (rest':=T++[]) (by simp)).box (nodeC 8 pos n m name (.slice ko kl kc))
 have H:Hid (Wq B w0 wb 54 (nodeC 8 pos n m name (.slice ko kl kc)) T):=HP
 clear h hf HP
 have F:=q.f1
 go_enter Tryz.func24,Tryz.ntmps24
 go_wp2_with (go_at_call 54;refine q.go (fun a1 a2=>H.out a1 a2) ?_;clear q F;intro w2 q;have F:=q.f1)
 go_end0
 exact q.done (by simp)
end
end Go.Proofs.YtagdihffmjopaaaGreatDoor
