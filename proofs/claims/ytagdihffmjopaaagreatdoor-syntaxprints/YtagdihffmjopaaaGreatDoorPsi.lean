/- The project's writer: what is made. -/
import Derived.Test.YtagdihffmjopaaaGreatDoorPta
namespace Go.Proofs.YtagdihffmjopaaaGreatDoor
set_option linter.all false
open Go.RowKit
section
variable{B:Nat} {w0 w:World} {wb f:Nat} {ts0:List (List UInt8)} {kind pos n m:Int} {name:ByteArray} {ko:Option Addr} {kl kc:Nat}
theorem Nw.shape (h:Nw B w0 (f+1) (nodeC kind pos n m name (.slice ko kl kc)).toList):(ko=none∧kl=0∧kc=0)∨∃g,ko=some ⟨g,0,none⟩:=by
 obtain⟨kind',pos',n',m',name',kv,vs,h1,h2,h3,h3',h4,h5,h6,h7⟩:=h
 have e:kind=kind'∧pos=pos'∧n=n'∧m=m'∧name=name'∧Value.slice ko kl kc=kv:=by simpa[nodeC] using h1
 obtain⟨rfl,rfl,rfl,rfl,rfl,rfl⟩:=e
 rcases h4.2 with⟨x1,x2⟩|⟨g,cap,cur,x1,hb,hg,hnc,-⟩
 ·left;simpa using x1
 ·right
  obtain⟨rfl,-,-⟩:ko=some ⟨g,0,none⟩∧kl=vs.length∧kc=cap:=by simpa using x1
  exact⟨g,rfl⟩
set_option maxRecDepth 100000 in
set_option maxHeartbeats 1000000 in
theorem p67_45 (hR:RP B w0 wb f) (hm:Mx B w0) (ht:Tab B w0) (hx:Nw B w0 (f+1) (nodeC 45 pos n m name (.slice ko kl kc)).toList):Wq B w0 wb 67 (nodeC 45 pos n m name (.slice ko kl kc)) (tok (f+1) w0 (nodeC 45 pos n m name (.slice ko kl kc)).toList):=by
 intro w ts0 h hf
 have hcap:=hx.cap
 obtain⟨vs,hkl,hr,hg,htok,hs,hc⟩:=hx.opened
 rw[htok] at hf⊢
 clear htok hx
 have hn:=NK.of hr hg (by unfold kidK frK;omega)
 obtain rfl:kl=1:=by
  obtain⟨y,eks,-⟩:=hg.one (by decide)
  have:=congrArg List.length eks
  simp at this;omega
 have e:asm 45 n m (name:ByteArray).data.toList (vs.map (kdAt f w0))=[tl name,[58]]++(pAll (vs.map (kdAt f w0))++[]):=by
  rw[List.append_nil];rfl
 rw[e] at hf⊢
 clear e
 have q:=(Sp.start h hf).box (nodeC 45 pos n m name (.slice ko 1 kc))
 have HL:Hid (NK B w0 f ko vs∧vs.length=1):=⟨hn,hkl⟩
 clear h hf hr hg hc hkl hcap hn
 have F:=q.f1
 go_enter Tryz.func67,Tryz.ntmps67
 go_wp2_with (first
  |(go_at_call 47;refine q.puts (ss:=[name,⟨#[58]⟩]) (hg:=by first|rfl|simp) (ho:=rfl) (hX:=rfl) (hn:=rfl) (hl:=by decide) ?_;clear q F;intro w2 q;have F:=q.f1)
  |(go_at_call 46;refine q.go (fun a1 a2=>nodes46 hR HL.out.1 HL.out.2 a1 a2) ?_;clear q F;intro w2 q;have F:=q.f1))
 all_goals(go_end0;exact q.done (by simp<;>rfl))
set_option maxRecDepth 100000 in
set_option maxHeartbeats 1000000 in
theorem p67_47 (hR:RP B w0 wb f) (hm:Mx B w0) (ht:Tab B w0) (hx:Nw B w0 (f+1) (nodeC 47 pos n m name (.slice ko kl kc)).toList):Wq B w0 wb 67 (nodeC 47 pos n m name (.slice ko kl kc)) (tok (f+1) w0 (nodeC 47 pos n m name (.slice ko kl kc)).toList):=by
 intro w ts0 h hf
 have hcap:=hx.cap
 obtain⟨vs,hkl,hr,hg,htok,hs,hc⟩:=hx.opened
 rw[htok] at hf⊢
 clear htok hx
 have e:asm 47 n m (name:ByteArray).data.toList (vs.map (kdAt f w0))=pWhen (decide (0<n)) [[38]]++(pWhen (n==2) [[109,117,116]]++(tl name::[])):=by
  rfl
 rw[e] at hf⊢
 clear e
 have q:=(Sp.start h hf).box (nodeC 47 pos n m name (.slice ko kl kc))
 clear h hf hr hg hc hkl hcap
 have F:=q.f1
 go_enter Tryz.func67,Tryz.ntmps67
 go_wp2_with (first
  |(go_at_call 47;refine q.put ?_;clear q F;intro w2 q;have F:=q.f1)
  |(go_at_call 56;refine q.when (ss:=[⟨#[109,117,116]⟩]) ?_;clear q F;intro w2 q;have F:=q.f1)
  |(go_at_call 56;refine q.when (ss:=[⟨#[38]⟩]) ?_;clear q F;intro w2 q;have F:=q.f1))
 all_goals(go_end0;exact q.done (by simp<;>rfl))
set_option maxRecDepth 100000 in
set_option maxHeartbeats 1000000 in
theorem p67_44b (hR:RP B w0 wb f) (hm:Mx B w0) (ht:Tab B w0) (hko:∃g,ko=some ⟨g,0,none⟩) (hx:Nw B w0 (f+1) (nodeC 44 pos n m name (.slice ko kl kc)).toList):Wq B w0 wb 67 (nodeC 44 pos n m name (.slice ko kl kc)) (tok (f+1) w0 (nodeC 44 pos n m name (.slice ko kl kc)).toList):=by
 intro w ts0 h hf
 have hcap:=hx.cap
 obtain⟨vs,hkl,hr,hg,htok,hs,hc⟩:=hx.opened
 rw[htok] at hf⊢
 clear htok hx
 have hn:=NK.of hr hg (by unfold kidK frK;omega)
 obtain⟨g,rfl⟩:=hko
 obtain⟨mm,rfl,hmm⟩:∃mm:Nat,m=(mm:Int)∧mm≤kl:=by
  obtain⟨-,ts,zs,eks,hml,-,-⟩:=hg.make rfl
  have:=congrArg List.length eks
  simp at this
  exact⟨ts.length,hml.symm,by omega⟩
 obtain⟨l1,rfl⟩:∃l1,kl=mm+l1:=⟨kl - mm,by omega⟩
 obtain⟨c1,rfl⟩:∃c1,kc=mm+c1:=⟨kc - mm,by omega⟩
 obtain⟨us,hus⟩:∃us,us=vs.drop mm:=⟨_,rfl⟩
 have hul:us.length=l1:=by rw[hus,List.length_drop];omega
 have em:(vs.map (kdAt f w0)).drop mm=us.map (kdAt f w0):=by rw[hus,List.map_drop]
 obtain⟨vt,hvt⟩:∃vt,vt=vs.take mm:=⟨_,rfl⟩
 have hvl:vt.length=mm:=by rw[hvt,List.length_take];omega
 have em2:(vs.map (kdAt f w0)).take mm=vt.map (kdAt f w0):=by rw[hvt,List.map_take]
 have hb:=hn.row.few
 rw[hkl] at hb
 have e:asm 44 n mm (name:ByteArray).data.toList (vs.map (kdAt f w0))=[109,97,107,101]::(pth (tl name)::(pTys (vt.map (kdAt f w0))++(pRow [123] [125] (us.map (kdAt f w0))++[]))):=by
  show [109,97,107,101]::pth (tl name)::(pTys ((vs.map (kdAt f w0)).take (mm:Int).toNat)++pRow [123] [125] ((vs.map (kdAt f w0)).drop (mm:Int).toNat))=_;rw[Int.toNat_natCast,em,em2,List.append_nil]
 rw[e] at hf⊢
 clear e
 have q:=(Sp.start h hf).box (nodeC 44 pos n mm name (.slice (some ⟨g,0,none⟩) (mm+l1) (mm+c1)))
 have HL:Hid (NK B w0 f (some ⟨g,mm*11,none⟩) us∧us.length=l1):=⟨by have:=hn.drop mm;rw[←hus] at this;simpa using this,hul⟩
 have HZ:Hid (∀a,c1=0→NK B w0 f a us):=fun a hz=>by
  obtain rfl:us=[]:=List.eq_nil_of_length_eq_zero (by omega)
  exact NK.nil
 have HT:Hid (NK B w0 f (some ⟨g,0,none⟩) vt∧vt.length=mm):=⟨by have:=hn.take mm;rwa [←hvt] at this,hvl⟩
 have hbI:(mm:Int)+(l1:Int)≤20000:=by omega
 have hcI:(l1:Int)≤(c1:Int):=by omega
 clear h hf hr hg hc hkl hcap hn hus hul em hvt hvl em2 hb hmm
 have F:=q.f1
 go_enter Tryz.func67,Tryz.ntmps67
 go_wp2_with (first
  |(go_at_call 47;refine q.put ?_;clear q F;intro w2 q;have F:=q.f1)
  |(go_at_call 58;refine q.go (fun a1 a2=>row58 hR ⟨#[123]⟩ ⟨#[125]⟩ (HZ.out _ (by first|rfl|assumption|omega)) HL.out.2 a1 a2) ?_;clear q F;intro w2 q;have F:=q.f1)
  |(go_at_call 58;refine q.go (fun a1 a2=>row58 hR ⟨#[123]⟩ ⟨#[125]⟩ HL.out.1 HL.out.2 a1 a2) ?_;clear q F;intro w2 q;have F:=q.f1)
  |(go_at_call 62;refine q.go (fun a1 a2=>typesBehind62 hR HT.out.1 HT.out.2 a1 a2) ?_;clear q F;intro w2 q;have F:=q.f1)
  |(go_at_call 48;refine q.go (fun a1 a2=>path48 hm hs a1 a2) ?_;clear q F;intro w2 q;have F:=q.f1))
 all_goals(go_end0;exact q.done (by simp<;>rfl))
set_option maxRecDepth 100000 in
set_option maxHeartbeats 1000000 in
theorem p67_44a (hR:RP B w0 wb f) (hm:Mx B w0) (ht:Tab B w0) (hko:ko=none∧kl=0∧kc=0) (hx:Nw B w0 (f+1) (nodeC 44 pos n m name (.slice ko kl kc)).toList):Wq B w0 wb 67 (nodeC 44 pos n m name (.slice ko kl kc)) (tok (f+1) w0 (nodeC 44 pos n m name (.slice ko kl kc)).toList):=by
 intro w ts0 h hf
 have hcap:=hx.cap
 obtain⟨vs,hkl,hr,hg,htok,hs,hc⟩:=hx.opened
 rw[htok] at hf⊢
 clear htok hx
 have hn:=NK.of hr hg (by unfold kidK frK;omega)
 obtain⟨rfl,rfl,rfl⟩:=hko
 obtain rfl:m=0:=by
  obtain⟨-,ts,zs,eks,hml,-,-⟩:=hg.make rfl
  have:=congrArg List.length eks
  simp[hkl] at this
  have h0:ts.length=0:=by omega
  rw[←hml,h0];rfl
 have e:asm 44 n 0 (name:ByteArray).data.toList (vs.map (kdAt f w0))=[109,97,107,101]::(pth (tl name)::(pTys (vs.map (kdAt f w0))++(pRow [123] [125] (vs.map (kdAt f w0))++[]))):=by
  obtain rfl:vs=[]:=List.eq_nil_of_length_eq_zero hkl
  rfl
 rw[e] at hf⊢
 clear e
 have q:=(Sp.start h hf).box (nodeC 44 pos n 0 name (.slice none 0 0))
 have HL:Hid ((∀a,NK B w0 f a vs)∧vs.length=0):=⟨fun a=>by obtain rfl:vs=[]:=List.eq_nil_of_length_eq_zero hkl;exact NK.nil,hkl⟩
 clear h hf hr hg hc hkl hcap hn
 have F:=q.f1
 go_enter Tryz.func67,Tryz.ntmps67
 go_wp2_with (first
  |(go_at_call 47;refine q.put ?_;clear q F;intro w2 q;have F:=q.f1)
  |(go_at_call 58;refine q.go (fun a1 a2=>row58 hR ⟨#[123]⟩ ⟨#[125]⟩ (HL.out.1 _) HL.out.2 a1 a2) ?_;clear q F;intro w2 q;have F:=q.f1)
  |(go_at_call 62;refine q.go (fun a1 a2=>typesBehind62 hR (HL.out.1 _) HL.out.2 a1 a2) ?_;clear q F;intro w2 q;have F:=q.f1)
  |(go_at_call 48;refine q.go (fun a1 a2=>path48 hm hs a1 a2) ?_;clear q F;intro w2 q;have F:=q.f1))
 all_goals(go_end0;exact q.done (by simp<;>rfl))
set_option maxRecDepth 100000 in
set_option maxHeartbeats 1000000 in
theorem p67_46 (hR:RP B w0 wb f) (hm:Mx B w0) (ht:Tab B w0) (hx:Nw B w0 (f+1) (nodeC 46 pos n m name (.slice ko kl kc)).toList):Wq B w0 wb 67 (nodeC 46 pos n m name (.slice ko kl kc)) (tok (f+1) w0 (nodeC 46 pos n m name (.slice ko kl kc)).toList):=by
 intro w ts0 h hf
 have hcap:=hx.cap
 obtain⟨vs,hkl,hr,hg,htok,hs,hc⟩:=hx.opened
 rw[htok] at hf⊢
 clear htok hx
 have hn:=NK.of hr hg (by unfold kidK frK;omega)
 obtain⟨mm,pp,rfl,hkl2⟩:∃mm pp:Nat,m=(mm:Int)∧kl=mm+pp+2:=by
  obtain⟨cs,ps,x,y,eks,hml,-,-,-,-⟩:=hg.clos rfl
  have:=congrArg List.length eks
  simp at this
  exact⟨cs.length,ps.length,hml.symm,by omega⟩
 subst hkl2
 obtain⟨cz,rfl⟩:∃cz,kc=mm+pp+2+cz:=⟨kc - (mm+pp+2),by omega⟩
 obtain⟨k0,p0,a0,b0,s0,o0,l0,c0,g,X0,Y0,Z0,e0,y0,z0,rfl,W0,WO0,WR0,C0⟩:=kid_p hR hn hc (i:=(mm+pp)) (by omega)
 obtain⟨k1,p1,a1,b1,s1,o1,l1,c1,g1,X1,Y1,Z1,e1,y1,z1,eg1,W1,WO1,WR1,C1⟩:=kid_p hR hn hc (i:=(mm+pp+1)) (by omega)
 obtain rfl:g=g1:=by simpa using eg1
 obtain⟨vt,hvt⟩:∃vt,vt=vs.take mm:=⟨_,rfl⟩
 have hvl:vt.length=mm:=by rw[hvt,List.length_take];omega
 have em2:(vs.map (kdAt f w0)).take mm=vt.map (kdAt f w0):=by rw[hvt,List.map_take]
 obtain⟨us,hus⟩:∃us,us=(vs.take (mm+pp)).drop mm:=⟨_,rfl⟩
 have hul:us.length=pp:=by rw[hus,List.length_drop,List.length_take];omega
 have em:((vs.map (kdAt f w0)).take (mm+pp)).drop mm=us.map (kdAt f w0):=by rw[hus,List.map_drop,List.map_take]
 have hb:=hn.row.few
 rw[hkl] at hb
 have e:asm 46 n mm (name:ByteArray).data.toList (vs.map (kdAt f w0))=[102,110]::(pFn n++(pRow [91] [93] (vt.map (kdAt f w0))++(pRow [40] [41] (us.map (kdAt f w0))++(Z0++(X1++[]))))):=by
  show [102,110]::(pFn n++(pRow [91] [93] ((vs.map (kdAt f w0)).take (mm:Int).toNat)++(pRow [40] [41] (((vs.map (kdAt f w0)).take ((vs.map (kdAt f w0)).length - 2)).drop (mm:Int).toNat)++(pRes (kd (vs.map (kdAt f w0)) ((vs.map (kdAt f w0)).length - 2))++(kd (vs.map (kdAt f w0)) ((vs.map (kdAt f w0)).length - 1)).t))))=_;rw[show(vs.map (kdAt f w0)).length - 2=mm+pp from by rw[List.length_map];omega,show(vs.map (kdAt f w0)).length - 1=mm+pp+1 from by rw[List.length_map];omega,Int.toNat_natCast,em,em2,e0,e1,z0,List.append_nil]
 rw[e] at hf⊢
 clear e
 have q:=(Sp.start h hf).box (nodeC 46 pos n mm name (.slice (some ⟨g,0,none⟩) (mm+pp+2) (mm+pp+2+cz)))
 have HWR0:Hid (Wq B w0 wb 88 (nodeC k0 p0 a0 b0 s0 (.slice o0 l0 c0)) Z0):=WR0
 have HC0:Hid (∀W,Below B w0 W→B≤W.heap.size→g<W.heap.size∧∀j,j<11→W.cell? ⟨g,(mm+pp)*11+j,none⟩=(nodeC k0 p0 a0 b0 s0 (.slice o0 l0 c0)).toList[j]?):=C0
 have HW1:Hid (Wq B w0 wb 14 (nodeC k1 p1 a1 b1 s1 (.slice o1 l1 c1)) X1):=W1
 have HC1:Hid (∀W,Below B w0 W→B≤W.heap.size→g<W.heap.size∧∀j,j<11→W.cell? ⟨g,(mm+pp+1)*11+j,none⟩=(nodeC k1 p1 a1 b1 s1 (.slice o1 l1 c1)).toList[j]?):=C1
 have HL:Hid (NK B w0 f (some ⟨g,mm*11,none⟩) us∧us.length=pp):=⟨by have:=(hn.take (mm+pp)).drop mm;rw[←hus] at this;simpa using this,hul⟩
 have HT:Hid (NK B w0 f (some ⟨g,0,none⟩) vt∧vt.length=mm):=⟨by have:=hn.take mm;rwa [←hvt] at this,hvl⟩
 have hbI:(mm:Int)+(pp:Int)+2≤20000:=by omega
 clear e0 y0 z0 W0 WO0 WR0 C0
 clear e1 y1 z1 W1 WO1 WR1 C1 eg1
 clear h hf hr hg hc hkl hcap hn hus hul em hvt hvl em2 hb
 have F:=q.f1
 have lg:=(HC0.out _ q.wr.bel q.wr.base).1
 have G0:=kidn (HC0.out _ q.wr.bel q.wr.base).2
 have G1:=kidn (HC1.out _ q.wr.bel q.wr.base).2
 go_enter Tryz.func67,Tryz.ntmps67
 go_wp2_with (first
  |(go_at_call 47;refine q.put ?_;clear q F lg G0 G1;intro w2 q;have F:=q.f1;have lg:=(HC0.out _ q.wr.bel q.wr.base).1;have G0:=kidn (HC0.out _ q.wr.bel q.wr.base).2;have G1:=kidn (HC1.out _ q.wr.bel q.wr.base).2)
  |(go_at_call 58;refine q.go (fun a1 a2=>row58 hR ⟨#[40]⟩ ⟨#[41]⟩ HL.out.1 HL.out.2 a1 a2) ?_;clear q F lg G0 G1;intro w2 q;have F:=q.f1;have lg:=(HC0.out _ q.wr.bel q.wr.base).1;have G0:=kidn (HC0.out _ q.wr.bel q.wr.base).2;have G1:=kidn (HC1.out _ q.wr.bel q.wr.base).2)
  |(go_at_call 58;refine q.go (fun a1 a2=>row58 hR ⟨#[91]⟩ ⟨#[93]⟩ HT.out.1 HT.out.2 a1 a2) ?_;clear q F lg G0 G1;intro w2 q;have F:=q.f1;have lg:=(HC0.out _ q.wr.bel q.wr.base).1;have G0:=kidn (HC0.out _ q.wr.bel q.wr.base).2;have G1:=kidn (HC1.out _ q.wr.bel q.wr.base).2)
  |(go_at_call 59;refine q.go (fun a1 a2=>fnKind59 n a1 a2) ?_;clear q F lg G0 G1;intro w2 q;have F:=q.f1;have lg:=(HC0.out _ q.wr.bel q.wr.base).1;have G0:=kidn (HC0.out _ q.wr.bel q.wr.base).2;have G1:=kidn (HC1.out _ q.wr.bel q.wr.base).2)
  |(go_at_call 88;refine q.go (fun a1 a2=>HWR0.out a1 a2) ?_;clear q F lg G0 G1;intro w2 q;have F:=q.f1;have lg:=(HC0.out _ q.wr.bel q.wr.base).1;have G0:=kidn (HC0.out _ q.wr.bel q.wr.base).2;have G1:=kidn (HC1.out _ q.wr.bel q.wr.base).2)
  |(go_at_call 14;refine q.go (fun a1 a2=>HW1.out a1 a2) ?_;clear q F lg G0 G1;intro w2 q;have F:=q.f1;have lg:=(HC0.out _ q.wr.bel q.wr.base).1;have G0:=kidn (HC0.out _ q.wr.bel q.wr.base).2;have G1:=kidn (HC1.out _ q.wr.bel q.wr.base).2))
 all_goals(go_end0;exact q.done (by simp<;>rfl))
set_option maxRecDepth 100000 in
set_option maxHeartbeats 1000000 in
theorem p67_48 (hR:RP B w0 wb f) (hm:Mx B w0) (ht:Tab B w0) (hx:Nw B w0 (f+1) (nodeC 48 pos n m name (.slice ko kl kc)).toList):Wq B w0 wb 67 (nodeC 48 pos n m name (.slice ko kl kc)) (tok (f+1) w0 (nodeC 48 pos n m name (.slice ko kl kc)).toList):=by
 intro w ts0 h hf
 have hcap:=hx.cap
 obtain⟨vs,hkl,hr,hg,htok,hs,hc⟩:=hx.opened
 rw[htok] at hf⊢
 clear htok hx
 have hn:=NK.of hr hg (by unfold kidK frK;omega)
 obtain⟨mm,rfl,hkl2⟩:∃mm:Nat,m=(mm:Int)∧kl=mm+2:=by
  obtain⟨cs,x,y,eks,hml,-,-,-⟩:=hg.spawn rfl
  have:=congrArg List.length eks
  simp at this
  exact⟨cs.length,hml.symm,by omega⟩
 subst hkl2
 obtain⟨k0,p0,a0,b0,s0,o0,l0,c0,g,X0,Y0,Z0,e0,y0,z0,rfl,W0,WO0,WR0,C0⟩:=kid_p hR hn hc (i:=mm) (by omega)
 obtain⟨k1,p1,a1,b1,s1,o1,l1,c1,g1,X1,Y1,Z1,e1,y1,z1,eg1,W1,WO1,WR1,C1⟩:=kid_p hR hn hc (i:=(mm+1)) (by omega)
 obtain rfl:g=g1:=by simpa using eg1
 obtain⟨vt,hvt⟩:∃vt,vt=vs.take mm:=⟨_,rfl⟩
 have hvl:vt.length=mm:=by rw[hvt,List.length_take];omega
 have em2:(vs.map (kdAt f w0)).take mm=vt.map (kdAt f w0):=by rw[hvt,List.map_take]
 have hb:=hn.row.few
 rw[hkl] at hb
 have e:asm 48 n mm (name:ByteArray).data.toList (vs.map (kdAt f w0))=[115,112,97,119,110]::(pRow [91] [93] (vt.map (kdAt f w0))++(Z0++(X1++[]))):=by
  show [115,112,97,119,110]::(pRow [91] [93] ((vs.map (kdAt f w0)).take (mm:Int).toNat)++(pRes (kd (vs.map (kdAt f w0)) (mm:Int).toNat)++(kd (vs.map (kdAt f w0)) ((mm:Int).toNat+1)).t))=_;rw[Int.toNat_natCast,em2,e0,e1,z0,List.append_nil]
 rw[e] at hf⊢
 clear e
 have q:=(Sp.start h hf).box (nodeC 48 pos n mm name (.slice (some ⟨g,0,none⟩) (mm+2) kc))
 have HWR0:Hid (Wq B w0 wb 88 (nodeC k0 p0 a0 b0 s0 (.slice o0 l0 c0)) Z0):=WR0
 have HC0:Hid (∀W,Below B w0 W→B≤W.heap.size→g<W.heap.size∧∀j,j<11→W.cell? ⟨g,mm*11+j,none⟩=(nodeC k0 p0 a0 b0 s0 (.slice o0 l0 c0)).toList[j]?):=C0
 have HW1:Hid (Wq B w0 wb 14 (nodeC k1 p1 a1 b1 s1 (.slice o1 l1 c1)) X1):=W1
 have HC1:Hid (∀W,Below B w0 W→B≤W.heap.size→g<W.heap.size∧∀j,j<11→W.cell? ⟨g,(mm+1)*11+j,none⟩=(nodeC k1 p1 a1 b1 s1 (.slice o1 l1 c1)).toList[j]?):=C1
 have HT:Hid (NK B w0 f (some ⟨g,0,none⟩) vt∧vt.length=mm):=⟨by have:=hn.take mm;rwa [←hvt] at this,hvl⟩
 have hbI:(mm:Int)+2≤20000:=by omega
 have hcI:(mm:Int)+2≤(kc:Int):=by omega
 have hcI2:(mm:Int)≤(kc:Int):=by omega
 clear e0 y0 z0 W0 WO0 WR0 C0
 clear e1 y1 z1 W1 WO1 WR1 C1 eg1
 clear h hf hr hg hc hkl hcap hn hvt hvl em2 hb
 have F:=q.f1
 have lg:=(HC0.out _ q.wr.bel q.wr.base).1
 have G0:=kidn (HC0.out _ q.wr.bel q.wr.base).2
 have G1:=kidn (HC1.out _ q.wr.bel q.wr.base).2
 go_enter Tryz.func67,Tryz.ntmps67
 go_wp2_with (first
  |(go_at_call 47;refine q.put ?_;clear q F lg G0 G1;intro w2 q;have F:=q.f1;have lg:=(HC0.out _ q.wr.bel q.wr.base).1;have G0:=kidn (HC0.out _ q.wr.bel q.wr.base).2;have G1:=kidn (HC1.out _ q.wr.bel q.wr.base).2)
  |(go_at_call 58;refine q.go (fun a1 a2=>row58 hR ⟨#[91]⟩ ⟨#[93]⟩ HT.out.1 HT.out.2 a1 a2) ?_;clear q F lg G0 G1;intro w2 q;have F:=q.f1;have lg:=(HC0.out _ q.wr.bel q.wr.base).1;have G0:=kidn (HC0.out _ q.wr.bel q.wr.base).2;have G1:=kidn (HC1.out _ q.wr.bel q.wr.base).2)
  |(go_at_call 88;refine q.go (fun a1 a2=>HWR0.out a1 a2) ?_;clear q F lg G0 G1;intro w2 q;have F:=q.f1;have lg:=(HC0.out _ q.wr.bel q.wr.base).1;have G0:=kidn (HC0.out _ q.wr.bel q.wr.base).2;have G1:=kidn (HC1.out _ q.wr.bel q.wr.base).2)
  |(go_at_call 14;refine q.go (fun a1 a2=>HW1.out a1 a2) ?_;clear q F lg G0 G1;intro w2 q;have F:=q.f1;have lg:=(HC0.out _ q.wr.bel q.wr.base).1;have G0:=kidn (HC0.out _ q.wr.bel q.wr.base).2;have G1:=kidn (HC1.out _ q.wr.bel q.wr.base).2))
 all_goals(go_end0;exact q.done (by simp<;>rfl))
set_option maxRecDepth 100000 in
set_option maxHeartbeats 1000000 in
theorem d26_44 {T:List (List UInt8)} (HP:Wq B w0 wb 67 (nodeC 44 pos n m name (.slice ko kl kc)) T):Wq B w0 wb 26 (nodeC 44 pos n m name (.slice ko kl kc)) T:=by
 intro w ts0 h hf
 have q:=((Sp.start h hf).as (rest':=T++[]) (by simp)).box (nodeC 44 pos n m name (.slice ko kl kc))
 have H:Hid (Wq B w0 wb 67 (nodeC 44 pos n m name (.slice ko kl kc)) T):=HP
 clear h hf HP
 have F:=q.f1
 go_enter Tryz.func26,Tryz.ntmps26
 go_wp2_with (go_at_call 67;refine q.go (fun a1 a2=>H.out a1 a2) ?_;clear q F;intro w2 q;have F:=q.f1)
 go_end0
 exact q.done (by simp)
set_option maxRecDepth 100000 in
set_option maxHeartbeats 1000000 in
theorem d26_45 {T:List (List UInt8)} (HP:Wq B w0 wb 67 (nodeC 45 pos n m name (.slice ko kl kc)) T):Wq B w0 wb 26 (nodeC 45 pos n m name (.slice ko kl kc)) T:=by
 intro w ts0 h hf
 have q:=((Sp.start h hf).as (rest':=T++[]) (by simp)).box (nodeC 45 pos n m name (.slice ko kl kc))
 have H:Hid (Wq B w0 wb 67 (nodeC 45 pos n m name (.slice ko kl kc)) T):=HP
 clear h hf HP
 have F:=q.f1
 go_enter Tryz.func26,Tryz.ntmps26
 go_wp2_with (go_at_call 67;refine q.go (fun a1 a2=>H.out a1 a2) ?_;clear q F;intro w2 q;have F:=q.f1)
 go_end0
 exact q.done (by simp)
set_option maxRecDepth 100000 in
set_option maxHeartbeats 1000000 in
theorem d26_46 {T:List (List UInt8)} (HP:Wq B w0 wb 67 (nodeC 46 pos n m name (.slice ko kl kc)) T):Wq B w0 wb 26 (nodeC 46 pos n m name (.slice ko kl kc)) T:=by
 intro w ts0 h hf
 have q:=((Sp.start h hf).as (rest':=T++[]) (by simp)).box (nodeC 46 pos n m name (.slice ko kl kc))
 have H:Hid (Wq B w0 wb 67 (nodeC 46 pos n m name (.slice ko kl kc)) T):=HP
 clear h hf HP
 have F:=q.f1
 go_enter Tryz.func26,Tryz.ntmps26
 go_wp2_with (go_at_call 67;refine q.go (fun a1 a2=>H.out a1 a2) ?_;clear q F;intro w2 q;have F:=q.f1)
 go_end0
 exact q.done (by simp)
set_option maxRecDepth 100000 in
set_option maxHeartbeats 1000000 in
theorem d26_47 {T:List (List UInt8)} (HP:Wq B w0 wb 67 (nodeC 47 pos n m name (.slice ko kl kc)) T):Wq B w0 wb 26 (nodeC 47 pos n m name (.slice ko kl kc)) T:=by
 intro w ts0 h hf
 have q:=((Sp.start h hf).as (rest':=T++[]) (by simp)).box (nodeC 47 pos n m name (.slice ko kl kc))
 have H:Hid (Wq B w0 wb 67 (nodeC 47 pos n m name (.slice ko kl kc)) T):=HP
 clear h hf HP
 have F:=q.f1
 go_enter Tryz.func26,Tryz.ntmps26
 go_wp2_with (go_at_call 67;refine q.go (fun a1 a2=>H.out a1 a2) ?_;clear q F;intro w2 q;have F:=q.f1)
 go_end0
 exact q.done (by simp)
set_option maxRecDepth 100000 in
set_option maxHeartbeats 1000000 in
theorem d26_48 {T:List (List UInt8)} (HP:Wq B w0 wb 67 (nodeC 48 pos n m name (.slice ko kl kc)) T):Wq B w0 wb 26 (nodeC 48 pos n m name (.slice ko kl kc)) T:=by
 intro w ts0 h hf
 have q:=((Sp.start h hf).as (rest':=T++[]) (by simp)).box (nodeC 48 pos n m name (.slice ko kl kc))
 have H:Hid (Wq B w0 wb 67 (nodeC 48 pos n m name (.slice ko kl kc)) T):=HP
 clear h hf HP
 have F:=q.f1
 go_enter Tryz.func26,Tryz.ntmps26
 go_wp2_with (go_at_call 67;refine q.go (fun a1 a2=>H.out a1 a2) ?_;clear q F;intro w2 q;have F:=q.f1)
 go_end0
 exact q.done (by simp)
end
end Go.Proofs.YtagdihffmjopaaaGreatDoor
