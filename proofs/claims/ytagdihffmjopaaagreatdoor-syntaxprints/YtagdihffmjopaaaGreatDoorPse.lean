/- The project's writer: types. -/
import Derived.Test.YtagdihffmjopaaaGreatDoorPsc
namespace Go.Proofs.YtagdihffmjopaaaGreatDoor
set_option linter.all false
open Go.RowKit
section
variable{B:Nat} {w0 w:World} {wb f:Nat} {bs:List UInt8} {kind pos n m:Int} {name:ByteArray} {ko:Option Addr} {kl kc:Nat}
set_option maxRecDepth 100000 in
set_option maxHeartbeats 2000000 in
theorem ctl_38 (hRs:∀g,g≤f→RN B w0 wb g) (hx:Nw B w0 (f+1) (nodeC 38 pos n m name (.slice ko kl kc)).toList) (h:Wr B w0 w wb bs) (hne:bs≠[]) (hf:(bs++glue (tok (f+1) w0 (nodeC 38 pos n m name (.slice ko kl kc)).toList)).length≤1099511627776):Calls Tryz.prog 117 #[.pointer (some ⟨wb,0,none⟩),.agg (nodeC 38 pos n m name (.slice ko kl kc))] w (WP B w0 w wb bs (tok (f+1) w0 (nodeC 38 pos n m name (.slice ko kl kc)).toList)):=by
 obtain⟨vs,rfl,hr,hg,ht,hs,hc⟩:=hx.opened
 rw[ht] at hf⊢
 have q:=((Sw.start h hne hf).as (rest':=[98,114,101,97,107]::[]) rfl).box (nodeC 38 pos n m name (.slice ko vs.length kc))
 have F:=q.f1
 clear h hne hf hr hg ht hs hc hx
 go_enter Tryz.func117,Tryz.ntmps117
 go_wp2_with (go_at_call 33;refine q.put ?_;clear q F;intro w2 q;have F:=q.f1)
 go_end0
 exact q.done rfl
set_option maxRecDepth 100000 in
set_option maxHeartbeats 2000000 in
theorem ctl_39 (hRs:∀g,g≤f→RN B w0 wb g) (hx:Nw B w0 (f+1) (nodeC 39 pos n m name (.slice ko kl kc)).toList) (h:Wr B w0 w wb bs) (hne:bs≠[]) (hf:(bs++glue (tok (f+1) w0 (nodeC 39 pos n m name (.slice ko kl kc)).toList)).length≤1099511627776):Calls Tryz.prog 117 #[.pointer (some ⟨wb,0,none⟩),.agg (nodeC 39 pos n m name (.slice ko kl kc))] w (WP B w0 w wb bs (tok (f+1) w0 (nodeC 39 pos n m name (.slice ko kl kc)).toList)):=by
 obtain⟨vs,rfl,hr,hg,ht,hs,hc⟩:=hx.opened
 rw[ht] at hf⊢
 have q:=((Sw.start h hne hf).as (rest':=[110,101,120,116]::[]) rfl).box (nodeC 39 pos n m name (.slice ko vs.length kc))
 have F:=q.f1
 clear h hne hf hr hg ht hs hc hx
 go_enter Tryz.func117,Tryz.ntmps117
 go_wp2_with (go_at_call 33;refine q.put ?_;clear q F;intro w2 q;have F:=q.f1)
 go_end0
 exact q.done rfl
set_option maxRecDepth 100000 in
set_option maxHeartbeats 2000000 in
theorem ctl_41 (hRs:∀g,g≤f→RN B w0 wb g) (hx:Nw B w0 (f+1) (nodeC 41 pos n m name (.slice ko kl kc)).toList) (h:Wr B w0 w wb bs) (hne:bs≠[]) (hf:(bs++glue (tok (f+1) w0 (nodeC 41 pos n m name (.slice ko kl kc)).toList)).length≤1099511627776):Calls Tryz.prog 117 #[.pointer (some ⟨wb,0,none⟩),.agg (nodeC 41 pos n m name (.slice ko kl kc))] w (WP B w0 w wb bs (tok (f+1) w0 (nodeC 41 pos n m name (.slice ko kl kc)).toList)):=by
 obtain⟨vs,rfl,hr,hg,ht,hs,hc⟩:=hx.opened
 rw[ht] at hf⊢
 have q:=((Sw.start h hne hf).as (rest':=[112,97,110,105,99]::[]) rfl).box (nodeC 41 pos n m name (.slice ko vs.length kc))
 have F:=q.f1
 clear h hne hf hr hg ht hs hc hx
 go_enter Tryz.func117,Tryz.ntmps117
 go_wp2_with (go_at_call 33;refine q.put ?_;clear q F;intro w2 q;have F:=q.f1)
 go_end0
 exact q.done rfl
set_option maxRecDepth 100000 in
set_option maxHeartbeats 2000000 in
theorem ctl_36 (hRs:∀g,g≤f→RN B w0 wb g) (hx:Nw B w0 (f+1) (nodeC 36 pos n m name (.slice ko kl kc)).toList) (h:Wr B w0 w wb bs) (hne:bs≠[]) (hf:(bs++glue (tok (f+1) w0 (nodeC 36 pos n m name (.slice ko kl kc)).toList)).length≤1099511627776):Calls Tryz.prog 117 #[.pointer (some ⟨wb,0,none⟩),.agg (nodeC 36 pos n m name (.slice ko kl kc))] w (WP B w0 w wb bs (tok (f+1) w0 (nodeC 36 pos n m name (.slice ko kl kc)).toList)):=by
 obtain⟨vs,rfl,hr,hg,ht,hs,hc⟩:=hx.opened
 rw[ht] at hf⊢
 obtain⟨x1,x2,eks,nk1,nk2⟩:=hg.two (by decide)
 have hl:vs.length=2:=by have:=congrArg List.length eks;simpa using this
 have hk:∀x∈vs,noK (labOf x):=fun x hx=>by
  have h9:labOf x∈vs.map labOf:=List.mem_map.2 ⟨x,hx,rfl⟩
  rw[eks] at h9
  rcases List.mem_cons.1 h9 with h9|h9
  ·rw[h9];exact nk1
  ·rw[List.mem_singleton.1 h9];exact nk2
 obtain⟨k0,p0,a0,b0,s0,o0,l0,c0,g0,X0,Y0,Z0,e0,y0,z0,eg0,W0,WO0,WR0,C0⟩:=kid_w (hRs f (Nat.le_refl f)) hr hc (i:=0) (by omega) (fun x hx=>hk x (List.mem_of_getElem? hx))
 obtain⟨g,rfl⟩:∃g,g=g0:=⟨_,rfl⟩
 subst eg0
 obtain⟨k1,p1,a1,b1,s1,o1,l1,c1,g1,X1,Y1,Z1,e1,y1,z1,eg1,W1,WO1,WR1,C1⟩:=kid_w (hRs f (Nat.le_refl f)) hr hc (i:=1) (by omega) (fun x hx=>hk x (List.mem_of_getElem? hx))
 obtain rfl:g=g1:=by simpa using eg1
 have e:asm 36 n m name.data.toList (vs.map (kdAt f w0))=[119,104,105,108,101]::(Y0++(X1++[])):=by show [119,104,105,108,101]::(pOp (kd (vs.map (kdAt f w0)) 0)++(kd (vs.map (kdAt f w0)) 1).t)=_;rw[e0,e1,y0,List.append_nil]
 rw[e] at hf⊢
 clear e
 have q:=(Sw.start h hne hf).box (nodeC 36 pos n m name (.slice (some ⟨g,0,none⟩) vs.length kc))
 have HW0:Hid (Wc B w0 wb 76 (nodeC k0 p0 a0 b0 s0 (.slice o0 l0 c0)) X0):=W0
 have HWO0:Hid (Wc B w0 wb 115 (nodeC k0 p0 a0 b0 s0 (.slice o0 l0 c0)) Y0):=WO0
 have HWR0:Hid (Wc B w0 wb 96 (nodeC k0 p0 a0 b0 s0 (.slice o0 l0 c0)) Z0):=WR0
 have HC0:Hid (∀W,Below B w0 W→B≤W.heap.size→g<W.heap.size∧∀j,j<11→W.cell? ⟨g,0*11+j,none⟩=(nodeC k0 p0 a0 b0 s0 (.slice o0 l0 c0)).toList[j]?):=C0
 clear e0 y0 z0 W0 WO0 WR0 C0
 have HW1:Hid (Wc B w0 wb 76 (nodeC k1 p1 a1 b1 s1 (.slice o1 l1 c1)) X1):=W1
 have HWO1:Hid (Wc B w0 wb 115 (nodeC k1 p1 a1 b1 s1 (.slice o1 l1 c1)) Y1):=WO1
 have HWR1:Hid (Wc B w0 wb 96 (nodeC k1 p1 a1 b1 s1 (.slice o1 l1 c1)) Z1):=WR1
 have HC1:Hid (∀W,Below B w0 W→B≤W.heap.size→g<W.heap.size∧∀j,j<11→W.cell? ⟨g,1*11+j,none⟩=(nodeC k1 p1 a1 b1 s1 (.slice o1 l1 c1)).toList[j]?):=C1
 clear e1 y1 z1 W1 WO1 WR1 C1
 have hi0:(0:Int)<(vs.length:Int):=by omega
 have hi1:(1:Int)<(vs.length:Int):=by omega
 clear h hne hf hr hg ht hs hc hx hk hRs hl eks eg1
 have F:=q.f1
 have lg:=(HC0.out _ q.wr.bel q.wr.base).1
 have G0:=kid0 (HC0.out _ q.wr.bel q.wr.base).2
 have G1:=kid1 (HC1.out _ q.wr.bel q.wr.base).2
 go_enter Tryz.func117,Tryz.ntmps117
 go_wp2_with (first
  |(go_at_call 33;refine q.put ?_;clear q F lg G0 G1;intro w2 q;have F:=q.f1;have lg:=(HC0.out _ q.wr.bel q.wr.base).1;have G0:=kid0 (HC0.out _ q.wr.bel q.wr.base).2;have G1:=kid1 (HC1.out _ q.wr.bel q.wr.base).2)
  |(go_at_call 76;refine q.go (fun a1 a2 a3=>HW1.out a1 a2 a3) ?_;clear q F lg G0 G1;intro w2 q;have F:=q.f1;have lg:=(HC0.out _ q.wr.bel q.wr.base).1;have G0:=kid0 (HC0.out _ q.wr.bel q.wr.base).2;have G1:=kid1 (HC1.out _ q.wr.bel q.wr.base).2)
  |(go_at_call 115;refine q.go (fun a1 a2 a3=>HWO0.out a1 a2 a3) ?_;clear q F lg G0 G1;intro w2 q;have F:=q.f1;have lg:=(HC0.out _ q.wr.bel q.wr.base).1;have G0:=kid0 (HC0.out _ q.wr.bel q.wr.base).2;have G1:=kid1 (HC1.out _ q.wr.bel q.wr.base).2))
 go_end0
 exact q.done (by simp)
set_option maxRecDepth 100000 in
set_option maxHeartbeats 2000000 in
theorem ctl_37 (hRs:∀g,g≤f→RN B w0 wb g) (hx:Nw B w0 (f+1) (nodeC 37 pos n m name (.slice ko kl kc)).toList) (h:Wr B w0 w wb bs) (hne:bs≠[]) (hf:(bs++glue (tok (f+1) w0 (nodeC 37 pos n m name (.slice ko kl kc)).toList)).length≤1099511627776):Calls Tryz.prog 117 #[.pointer (some ⟨wb,0,none⟩),.agg (nodeC 37 pos n m name (.slice ko kl kc))] w (WP B w0 w wb bs (tok (f+1) w0 (nodeC 37 pos n m name (.slice ko kl kc)).toList)):=by
 obtain⟨vs,rfl,hr,hg,ht,hs,hc⟩:=hx.opened
 rw[ht] at hf⊢
 obtain⟨x1,eks,nk1⟩:=hg.one (by decide)
 have hl:vs.length=1:=by have:=congrArg List.length eks;simpa using this
 have hk:∀x∈vs,noK (labOf x):=fun x hx=>by
  have h9:labOf x∈vs.map labOf:=List.mem_map.2 ⟨x,hx,rfl⟩
  rw[eks] at h9
  rw[List.mem_singleton.1 h9]
  exact nk1
 obtain⟨k0,p0,a0,b0,s0,o0,l0,c0,g0,X0,Y0,Z0,e0,y0,z0,eg0,W0,WO0,WR0,C0⟩:=kid_w (hRs f (Nat.le_refl f)) hr hc (i:=0) (by omega) (fun x hx=>hk x (List.mem_of_getElem? hx))
 obtain⟨g,rfl⟩:∃g,g=g0:=⟨_,rfl⟩
 subst eg0
 have e:asm 37 n m name.data.toList (vs.map (kdAt f w0))=[108,111,111,112]::(X0++[]):=by obtain⟨y,rfl⟩:=List.length_eq_one_iff.1 hl;show [108,111,111,112]::pAll [kdAt f w0 y]=_;have e9:kdAt f w0 y=⟨k0,l0,X0⟩:=(by simpa[kd] using e0);rw[e9];simp[pAll]
 rw[e] at hf⊢
 clear e
 have q:=(Sw.start h hne hf).box (nodeC 37 pos n m name (.slice (some ⟨g,0,none⟩) vs.length kc))
 have HW0:Hid (Wc B w0 wb 76 (nodeC k0 p0 a0 b0 s0 (.slice o0 l0 c0)) X0):=W0
 have HWO0:Hid (Wc B w0 wb 115 (nodeC k0 p0 a0 b0 s0 (.slice o0 l0 c0)) Y0):=WO0
 have HWR0:Hid (Wc B w0 wb 96 (nodeC k0 p0 a0 b0 s0 (.slice o0 l0 c0)) Z0):=WR0
 have HC0:Hid (∀W,Below B w0 W→B≤W.heap.size→g<W.heap.size∧∀j,j<11→W.cell? ⟨g,0*11+j,none⟩=(nodeC k0 p0 a0 b0 s0 (.slice o0 l0 c0)).toList[j]?):=C0
 clear e0 y0 z0 W0 WO0 WR0 C0
 have hi0:(0:Int)<(vs.length:Int):=by omega
 clear h hne hf hr hg ht hs hc hx hk hRs hl eks
 have F:=q.f1
 have lg:=(HC0.out _ q.wr.bel q.wr.base).1
 have G0:=kid0 (HC0.out _ q.wr.bel q.wr.base).2
 go_enter Tryz.func117,Tryz.ntmps117
 go_wp2_with (first
  |(go_at_call 33;refine q.put ?_;clear q F lg G0;intro w2 q;have F:=q.f1;have lg:=(HC0.out _ q.wr.bel q.wr.base).1;have G0:=kid0 (HC0.out _ q.wr.bel q.wr.base).2)
  |(go_at_call 76;refine q.go (fun a1 a2 a3=>HW0.out a1 a2 a3) ?_;clear q F lg G0;intro w2 q;have F:=q.f1;have lg:=(HC0.out _ q.wr.bel q.wr.base).1;have G0:=kid0 (HC0.out _ q.wr.bel q.wr.base).2))
 go_end0
 exact q.done (by simp)
set_option maxRecDepth 100000 in
set_option maxHeartbeats 2000000 in
theorem ctl_40 (hRs:∀g,g≤f→RN B w0 wb g) (hx:Nw B w0 (f+1) (nodeC 40 pos n m name (.slice ko kl kc)).toList) (h:Wr B w0 w wb bs) (hne:bs≠[]) (hf:(bs++glue (tok (f+1) w0 (nodeC 40 pos n m name (.slice ko kl kc)).toList)).length≤1099511627776):Calls Tryz.prog 117 #[.pointer (some ⟨wb,0,none⟩),.agg (nodeC 40 pos n m name (.slice ko kl kc))] w (WP B w0 w wb bs (tok (f+1) w0 (nodeC 40 pos n m name (.slice ko kl kc)).toList)):=by
 obtain⟨vs,rfl,hr,hg,ht,hs,hc⟩:=hx.opened
 rw[ht] at hf⊢
 obtain⟨hl,hk0⟩:=hg.gives rfl
 have hk:∀x∈vs,noK (labOf x):=fun x hx=>hk0 _ (List.mem_map.2 ⟨x,hx,rfl⟩)
 have e:asm 40 n m name.data.toList (vs.map (kdAt f w0))=[114,101,116,117,114,110]::(pSep [44] (vs.map (kdAt f w0))++[]):=by
  show [114,101,116,117,114,110]::pAll (vs.map (kdAt f w0))=_
  rw[List.append_nil]
  congr 1
  match vs,hl with
  |[],_=>rfl
  |[x],_=>simp[pAll,pSep,pMore]
  |_::_::_,h9=>exact absurd h9 (by simp)
 rw[e] at hf⊢
 clear e
 have q:=(Sw.start h hne hf).box (nodeC 40 pos n m name (.slice ko vs.length kc))
 have F:=q.f1
 have HL:Hid (NR B w0 f ko vs∧(∀x∈vs,noK (labOf x))∧RN B w0 wb f):=⟨hr,hk,hRs f (Nat.le_refl f)⟩
 clear h hne hf hr hg ht hs hc hx hk hk0 hl hRs
 go_enter Tryz.func117,Tryz.ntmps117
 go_wp2_with (first
  |(go_at_call 33;refine q.put ?_;clear q F;intro w2 q;have F:=q.f1)
  |(go_at_call 97;refine q.go (fun a1 a2 a3=>list97 HL.out.2.2 HL.out.1 HL.out.2.1 a1 a2 a3) ?_;clear q F;intro w2 q;have F:=q.f1))
 go_end0
 exact q.done (by simp)
set_option maxRecDepth 100000 in
set_option maxHeartbeats 2000000 in
theorem ctl_42 (hRs:∀g,g≤f→RN B w0 wb g) (hx:Nw B w0 (f+1) (nodeC 42 pos n m name (.slice ko kl kc)).toList) (h:Wr B w0 w wb bs) (hne:bs≠[]) (hf:(bs++glue (tok (f+1) w0 (nodeC 42 pos n m name (.slice ko kl kc)).toList)).length≤1099511627776):Calls Tryz.prog 117 #[.pointer (some ⟨wb,0,none⟩),.agg (nodeC 42 pos n m name (.slice ko kl kc))] w (WP B w0 w wb bs (tok (f+1) w0 (nodeC 42 pos n m name (.slice ko kl kc)).toList)):=by
 obtain⟨vs,rfl,hr,hg,ht,hs,hc⟩:=hx.opened
 rw[ht] at hf⊢
 have hk0:=hg.all (by decide)
 have hk:∀x∈vs,noK (labOf x):=fun x hx=>hk0 _ (List.mem_map.2 ⟨x,hx,rfl⟩)
 have e:asm 42 n m name.data.toList (vs.map (kdAt f w0))=([123]::(pBlk n (vs.map (kdAt f w0))++[[125]]))++[]:=by rw[List.append_nil];rfl
 rw[e] at hf⊢
 clear e
 have q:=(Sw.start h hne hf).box (nodeC 42 pos n m name (.slice ko vs.length kc))
 have F:=q.f1
 have HL:Hid (NR B w0 f ko vs∧(∀x∈vs,noK (labOf x))∧RN B w0 wb f):=⟨hr,hk,hRs f (Nat.le_refl f)⟩
 clear h hne hf hr hg ht hs hc hx hk hk0 hRs
 go_enter Tryz.func117,Tryz.ntmps117
 go_wp2_with (go_at_call 131;refine q.go (fun a1 a2 a3=>block131 HL.out.2.2 HL.out.1 HL.out.2.1 a1 a2 a3) ?_;clear q F;intro w2 q;have F:=q.f1)
 go_end0
 exact q.done (by simp)
end
end Go.Proofs.YtagdihffmjopaaaGreatDoor
namespace Go.Proofs.YtagdihffmjopaaaGreatDoor
set_option linter.all false
open Go.RowKit
theorem noK.ol {x:Int} (h:noK x):okL x:=by unfold noK at h;unfold Go.Proofs.YtagdihffmjopaaaGreatDoor.okL;omega
theorem tyK.ol {x:Int} (h:tyK x):okL x:=h.no.ol
def kidK (k:Int):Prop:=(0≤k∧k≤54)∧¬frK k∧k≠2∧k≠20∧k≠21∧k≠51∧k≠52
set_option maxHeartbeats 4000000 in
theorem Gr.ok {k n m:Int} {s:ByteArray} {ks:List Int} (h:Gr k n m s ks) (hk:kidK k):∀x∈ks,okL x:=by
 have lit:∀x:Int,(0≤x∧x≤54)∨x=104∨x=105∨x=108∨x=208∨x=308→Go.Proofs.YtagdihffmjopaaaGreatDoor.okL x:=fun x hx=>hx
 have c0:=h.prog;have c1:=h.mod;have c3:=h.data;have c4:=h.variant;have c5:=h.field;have c6:=h.trait;have c7:=h.impl;have c8:=h.fn;have c9:=h.gens;have c10:=h.glife;have c11:=h.gtype;have c12:=h.param;have c15:=h.tuple;have c16:=h.ref;have c17:=h.fnt;have c18:=h.path;have cA:=h.all;have cP:=h.pathed;have c24:=h.call;have c25:=h.part;have c1k:=h.one;have c27:=h.lend;have c2k:=h.two;have c33:=h.eif;have c34:=h.ematch;have c40:=h.gives;have c43:=h.elet;have c44:=h.make;have c46:=h.clos;have c48:=h.spawn
 intro x hx
 have hn:∀{y:Int},noK y→Go.Proofs.YtagdihffmjopaaaGreatDoor.okL y:=fun h=>h.ol
 have ht:∀{y:Int},tyK y→Go.Proofs.YtagdihffmjopaaaGreatDoor.okL y:=fun h=>h.ol
 by_cases k0:k=0
 ·exact lit x (by have:=c0 k0 x hx;omega)
 by_cases k1:k=1
 ·exact lit x (by have:=c1 k1 x hx;omega)
 by_cases k3:k=3
 ·obtain⟨-,⟨-,rfl⟩|⟨-,vs,rfl,hv⟩⟩:=c3 k3
  ·exact lit x (by simp at hx;omega)
  ·rcases List.mem_cons.1 hx with hx|hx
   ·exact lit x (by omega)
   ·exact lit x (by have:=hv x hx;omega)
 by_cases k4:k=4
 ·exact lit x (by have:=c4 k4 x hx;split at this<;>omega)
 by_cases k5:k=5
 ·obtain⟨y,rfl,hy⟩:=c5 k5
  rw[List.mem_singleton.1 hx];exact ht hy
 by_cases k6:k=6
 ·exact lit x (by have:=(c6 k6).2 x hx;omega)
 by_cases k7:k=7
 ·obtain⟨-,y,fs,rfl,hy,hf⟩:=c7 k7
  rcases List.mem_cons.1 hx with hx|hx
  ·exact lit x (by omega)
  rcases List.mem_cons.1 hx with hx|hx
  ·rw[hx];exact ht hy
  ·exact lit x (by have:=hf x hx;omega)
 by_cases k8:k=8
 ·obtain⟨-,ps,y,rest,rfl,-,hp,hy,-,hr⟩:=c8 k8
  rcases List.mem_cons.1 hx with hx|hx
  ·exact lit x (by omega)
  rcases List.mem_append.1 hx with hx|hx
  ·exact lit x (by have:=hp x hx;omega)
  rcases List.mem_cons.1 hx with hx|hx
  ·rw[hx];exact ht hy
  ·exact hn (hr x hx)
 by_cases k9:k=9
 ·exact lit x (by have:=(c9 k9).2 x hx;omega)
 by_cases k10:k=10
 ·exact lit x (by have:=c10 k10 x hx;omega)
 by_cases k11:k=11
 ·exact lit x (by have:=c11 k11 x hx;omega)
 by_cases k12:k=12
 ·obtain⟨y,rfl,hy⟩:=c12 k12
  rw[List.mem_singleton.1 hx];exact ht hy
 by_cases k15:k=15
 ·exact ht (c15 k15 x hx)
 by_cases k16:k=16
 ·obtain⟨-,y,rfl,hy⟩:=c16 k16
  rw[List.mem_singleton.1 hx];exact ht hy
 by_cases k17:k=17
 ·exact ht ((c17 k17).2 x hx)
 by_cases k18:k=18
 ·obtain⟨-,ls,ts,rfl,hl,hts⟩:=c18 k18
  rcases List.mem_append.1 hx with hx|hx
  ·exact lit x (by have:=hl x hx;omega)
  ·exact ht (hts x hx)
 by_cases kA:k=22∨k=42∨k=53
 ·exact hn (cA kA x hx)
 by_cases kP:k=23∨k=54
 ·exact hn ((cP kP).2 x hx)
 by_cases k24:k=24
 ·exact hn ((c24 k24).2 x hx)
 by_cases k25:k=25
 ·obtain⟨-,y,rfl,hy⟩:=c25 k25
  rw[List.mem_singleton.1 hx];exact hn hy
 by_cases k1k:k=26∨k=28∨k=37∨k=45
 ·obtain⟨y,rfl,hy⟩:=c1k k1k
  rw[List.mem_singleton.1 hx];exact hn hy
 by_cases k27:k=27
 ·obtain⟨-,y,rfl,hy⟩:=c27 k27
  rw[List.mem_singleton.1 hx];exact hn hy
 by_cases k2k:(29≤k∧k≤32)∨k=35∨k=36
 ·obtain⟨y,z,rfl,hy,hz⟩:=c2k k2k
  rcases List.mem_cons.1 hx with hx|hx
  ·rw[hx];exact hn hy
  ·rw[List.mem_singleton.1 hx];exact hn hz
 by_cases k33:k=33
 ·obtain⟨y,z,zs,rfl,-,hy,hz,hzs⟩:=c33 k33
  rcases List.mem_cons.1 hx with hx|hx
  ·rw[hx];exact hn hy
  rcases List.mem_cons.1 hx with hx|hx
  ·rw[hx];exact hn hz
  ·exact hn (hzs x hx)
 by_cases k34:k=34
 ·obtain⟨y,zs,rfl,hy,hzs⟩:=c34 k34
  rcases List.mem_cons.1 hx with hx|hx
  ·rw[hx];exact hn hy
  ·exact lit x (by have:=hzs x hx;omega)
 by_cases k40:k=40
 ·exact hn ((c40 k40).2 x hx)
 by_cases k43:k=43
 ·exact hn ((c43 k43).1 x hx)
 by_cases k44:k=44
 ·obtain⟨-,ts,zs,rfl,-,hts,hzs⟩:=c44 k44
  rcases List.mem_append.1 hx with hx|hx
  ·exact hn (hts x hx)
  ·exact lit x (by have:=hzs x hx;omega)
 by_cases k46:k=46
 ·obtain⟨cs,ps,y,z,rfl,-,hcs,hps,hy,hz⟩:=c46 k46
  rcases List.mem_append.1 hx with hx|hx
  ·exact lit x (by have:=hcs x hx;omega)
  rcases List.mem_append.1 hx with hx|hx
  ·exact lit x (by have:=hps x hx;omega)
  rcases List.mem_cons.1 hx with hx|hx
  ·rw[hx];exact hn hy
  ·rw[List.mem_singleton.1 hx];exact hn hz
 by_cases k48:k=48
 ·obtain⟨cs,y,z,rfl,-,hcs,hy,hz⟩:=c48 k48
  rcases List.mem_append.1 hx with hx|hx
  ·exact lit x (by have:=hcs x hx;omega)
  rcases List.mem_cons.1 hx with hx|hx
  ·rw[hx];exact hn hy
  ·rw[List.mem_singleton.1 hx];exact hn hz
 clear c0 c1 c3 c4 c5 c6 c7 c8 c9 c10 c11 c12 c15 c16 c17 c18 cA cP c24 c25 c1k c27 c2k c33 c34 c40 c43 c44 c46 c48 h
 exfalso
 unfold kidK frK at hk
 omega
section
variable{B:Nat} {w0 w:World} {wb f:Nat} {ko:Option Addr}
theorem NK.of {kind n m:Int} {name:ByteArray} {vs:List (List Value)} (hr:NR B w0 f ko vs) (hg:Gr kind n m name (vs.map labOf)) (hk:kidK kind):NK B w0 f ko vs:=⟨hr,fun x hx=>hg.ok hk _ (List.mem_map.2 ⟨x,hx,rfl⟩)⟩
theorem NK.take {a:Option Addr} {ks:List (List Value)} (r:NK B w0 f a ks) (i:Nat):NK B w0 f a (ks.take i):=⟨r.row.take i,fun x hx=>r.ok x (List.mem_of_mem_take hx)⟩
theorem NK.drop {g o:Nat} {ks:List (List Value)} (r:NK B w0 f (some ⟨g,o,none⟩) ks) (i:Nat):NK B w0 f (some ⟨g,o+i*11,none⟩) (ks.drop i):=⟨r.row.drop i,fun x hx=>r.ok x (List.mem_of_mem_drop hx)⟩
theorem NK.nil {a:Option Addr}:NK B w0 f a []:=⟨⟨fun i x hx=>by simp at hx,fun x hx=>(by cases hx),by simp⟩,fun x hx=>by cases hx⟩
theorem NR.nil {a:Option Addr}:NR B w0 f a []:=⟨fun i x hx=>by simp at hx,fun x hx=>(by cases hx),by simp⟩
end
end Go.Proofs.YtagdihffmjopaaaGreatDoor
namespace Go.Proofs.YtagdihffmjopaaaGreatDoor
set_option linter.all false
open Go.RowKit
section
variable{B:Nat} {w0 w:World} {wb f:Nat} {ts0:List (List UInt8)} {kind pos n m:Int} {name:ByteArray} {ko:Option Addr} {kl kc:Nat}
theorem kidn {W:World} {g i:Nat} {k p n m:Int} {s:ByteArray} {v:Value} (h:∀j,j<11→W.cell? ⟨g,i*11+j,none⟩=(nodeC k p n m s v).toList[j]?):W.cell? ⟨g,i*11,none⟩=some (.int .i64 k)∧W.cell? ⟨g,i*11+1,none⟩=some (.int .i64 p)∧W.cell? ⟨g,i*11+2,none⟩=some (.int .i64 n)∧W.cell? ⟨g,i*11+3,none⟩=some (.int .i64 m)∧W.cell? ⟨g,i*11+4,none⟩=some (.string s)∧W.cell? ⟨g,i*11+5,none⟩=some (v)∧W.cell? ⟨g,i*11+6,none⟩=some (.int .i64 0)∧W.cell? ⟨g,i*11+7,none⟩=some (.int .i64 0)∧W.cell? ⟨g,i*11+8,none⟩=some (.slice none 0 0)∧W.cell? ⟨g,i*11+9,none⟩=some (.slice none 0 0)∧W.cell? ⟨g,i*11+10,none⟩=some (.slice none 0 0):=⟨h 0 (by decide),h 1 (by decide),h 2 (by decide),h 3 (by decide),h 4 (by decide),h 5 (by decide),h 6 (by decide),h 7 (by decide),h 8 (by decide),h 9 (by decide),h 10 (by decide)⟩
theorem nm_empty {name:ByteArray} (h:(name.data.toList.length !=0)=false):name=⟨#[]⟩:=by
 have h9:name.data.toList.length=0:=by simpa using h
 rw[size_list] at h9
 obtain⟨d⟩:=name
 have:d=#[]:=Array.eq_empty_of_size_eq_zero h9
 rw[this]
theorem nm_some {name:ByteArray} (h:(name.data.toList.length !=0)=true):name.toList.isEmpty=false:=by
 cases h9:name.toList.isEmpty
 ·rfl
 ·have h8:name.toList=[]:=by simpa using h9
  rw[Lib.toList_data] at h8
  rw[h8] at h
  exact absurd h (by decide)
set_option maxRecDepth 100000 in
set_option maxHeartbeats 1000000 in
theorem p25_13 (hR:RP B w0 wb f) (hm:Mx B w0) (ht:Tab B w0) (hx:Nw B w0 (f+1) (nodeC 13 pos n m name (.slice ko kl kc)).toList):Wq B w0 wb 25 (nodeC 13 pos n m name (.slice ko kl kc)) (tok (f+1) w0 (nodeC 13 pos n m name (.slice ko kl kc)).toList):=by
 intro w ts0 h hf
 have hcap:=hx.cap
 obtain⟨vs,hkl,hr,hg,htok,hs,hc⟩:=hx.opened
 rw[htok] at hf⊢
 clear htok hx
 have e:asm 13 n m (name:ByteArray).data.toList (vs.map (kdAt f w0))=[105,110,116]::[]:=by
  rfl
 rw[e] at hf⊢
 clear e
 have q:=(Sp.start h hf).box (nodeC 13 pos n m name (.slice ko kl kc))
 clear h hf hr hg hc hkl hcap
 have F:=q.f1
 go_enter Tryz.func25,Tryz.ntmps25
 go_wp2_with (first
  |(go_at_call 47;refine q.put ?_;clear q F;intro w2 q;have F:=q.f1))
 all_goals(go_end0;exact q.done (rfl))
set_option maxRecDepth 100000 in
set_option maxHeartbeats 1000000 in
theorem p25_14 (hR:RP B w0 wb f) (hm:Mx B w0) (ht:Tab B w0) (hx:Nw B w0 (f+1) (nodeC 14 pos n m name (.slice ko kl kc)).toList):Wq B w0 wb 25 (nodeC 14 pos n m name (.slice ko kl kc)) (tok (f+1) w0 (nodeC 14 pos n m name (.slice ko kl kc)).toList):=by
 intro w ts0 h hf
 have hcap:=hx.cap
 obtain⟨vs,hkl,hr,hg,htok,hs,hc⟩:=hx.opened
 rw[htok] at hf⊢
 clear htok hx
 have e:asm 14 n m (name:ByteArray).data.toList (vs.map (kdAt f w0))=[98,111,111,108]::[]:=by
  rfl
 rw[e] at hf⊢
 clear e
 have q:=(Sp.start h hf).box (nodeC 14 pos n m name (.slice ko kl kc))
 clear h hf hr hg hc hkl hcap
 have F:=q.f1
 go_enter Tryz.func25,Tryz.ntmps25
 go_wp2_with (first
  |(go_at_call 47;refine q.put ?_;clear q F;intro w2 q;have F:=q.f1))
 all_goals(go_end0;exact q.done (rfl))
set_option maxRecDepth 100000 in
set_option maxHeartbeats 1000000 in
theorem p25_15 (hR:RP B w0 wb f) (hm:Mx B w0) (ht:Tab B w0) (hx:Nw B w0 (f+1) (nodeC 15 pos n m name (.slice ko kl kc)).toList):Wq B w0 wb 25 (nodeC 15 pos n m name (.slice ko kl kc)) (tok (f+1) w0 (nodeC 15 pos n m name (.slice ko kl kc)).toList):=by
 intro w ts0 h hf
 have hcap:=hx.cap
 obtain⟨vs,hkl,hr,hg,htok,hs,hc⟩:=hx.opened
 rw[htok] at hf⊢
 clear htok hx
 have hn:=NK.of hr hg (by unfold kidK frK;omega)
 have e:asm 15 n m (name:ByteArray).data.toList (vs.map (kdAt f w0))=pRow [40] [41] (vs.map (kdAt f w0))++[]:=by
  rw[List.append_nil];rfl
 rw[e] at hf⊢
 clear e
 have q:=(Sp.start h hf).box (nodeC 15 pos n m name (.slice ko kl kc))
 have HL:Hid (NK B w0 f ko vs∧vs.length=kl):=⟨hn,hkl⟩
 clear h hf hr hg hc hkl hcap hn
 have F:=q.f1
 go_enter Tryz.func25,Tryz.ntmps25
 go_wp2_with (first
  |(go_at_call 58;refine q.go (fun a1 a2=>row58 hR ⟨#[40]⟩ ⟨#[41]⟩ HL.out.1 HL.out.2 a1 a2) ?_;clear q F;intro w2 q;have F:=q.f1))
 all_goals(go_end0;exact q.done (by simp<;>rfl))
set_option maxRecDepth 100000 in
set_option maxHeartbeats 1000000 in
theorem p25_19 (hR:RP B w0 wb f) (hm:Mx B w0) (ht:Tab B w0) (hx:Nw B w0 (f+1) (nodeC 19 pos n m name (.slice ko kl kc)).toList):Wq B w0 wb 25 (nodeC 19 pos n m name (.slice ko kl kc)) (tok (f+1) w0 (nodeC 19 pos n m name (.slice ko kl kc)).toList):=by
 intro w ts0 h hf
 have hcap:=hx.cap
 obtain⟨vs,hkl,hr,hg,htok,hs,hc⟩:=hx.opened
 rw[htok] at hf⊢
 clear htok hx
 have e:asm 19 n m (name:ByteArray).data.toList (vs.map (kdAt f w0))=name.data.toList::[]:=by
  rfl
 rw[e] at hf⊢
 clear e
 have q:=(Sp.start h hf).box (nodeC 19 pos n m name (.slice ko kl kc))
 clear h hf hr hg hc hkl hcap
 have F:=q.f1
 go_enter Tryz.func25,Tryz.ntmps25
 go_wp2_with (first
  |(go_at_call 47;refine q.put ?_;clear q F;intro w2 q;have F:=q.f1))
 all_goals(go_end0;exact q.done (rfl))
set_option maxRecDepth 100000 in
set_option maxHeartbeats 1000000 in
theorem p25_18 (hR:RP B w0 wb f) (hm:Mx B w0) (ht:Tab B w0) (hx:Nw B w0 (f+1) (nodeC 18 pos n m name (.slice ko kl kc)).toList):Wq B w0 wb 25 (nodeC 18 pos n m name (.slice ko kl kc)) (tok (f+1) w0 (nodeC 18 pos n m name (.slice ko kl kc)).toList):=by
 intro w ts0 h hf
 have hcap:=hx.cap
 obtain⟨vs,hkl,hr,hg,htok,hs,hc⟩:=hx.opened
 rw[htok] at hf⊢
 clear htok hx
 have hn:=NK.of hr hg (by unfold kidK frK;omega)
 have e:asm 18 n m (name:ByteArray).data.toList (vs.map (kdAt f w0))=pth (tl name)::(pAng (vs.map (kdAt f w0))++[]):=by
  rw[List.append_nil];rfl
 rw[e] at hf⊢
 clear e
 have q:=(Sp.start h hf).box (nodeC 18 pos n m name (.slice ko kl kc))
 have HL:Hid (NK B w0 f ko vs∧vs.length=kl):=⟨hn,hkl⟩
 clear h hf hr hg hc hkl hcap hn
 have F:=q.f1
 go_enter Tryz.func25,Tryz.ntmps25
 go_wp2_with (first
  |(go_at_call 55;refine q.go (fun a1 a2=>angles55 hR HL.out.1 HL.out.2 a1 a2) ?_;clear q F;intro w2 q;have F:=q.f1)
  |(go_at_call 48;refine q.go (fun a1 a2=>path48 hm hs a1 a2) ?_;clear q F;intro w2 q;have F:=q.f1))
 all_goals(go_end0;exact q.done (by simp<;>rfl))
end
end Go.Proofs.YtagdihffmjopaaaGreatDoor
