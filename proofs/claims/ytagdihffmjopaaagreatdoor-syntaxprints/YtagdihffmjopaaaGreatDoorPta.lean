/- Paths; contracts with the length of the row told apart. -/
import Derived.Test.YtagdihffmjopaaaGreatDoorPse
namespace Go.Proofs.YtagdihffmjopaaaGreatDoor
set_option linter.all false
open Go.RowKit
section
variable{B:Nat} {w0 w:World} {wb f:Nat} {ts0:List (List UInt8)} {kind pos n m:Int} {name:ByteArray} {ko:Option Addr} {kl kc:Nat}
set_option maxRecDepth 100000 in
set_option maxHeartbeats 1000000 in
theorem p25_16a (hR:RP B w0 wb f) (hm:Mx B w0) (ht:Tab B w0) (hnm:(name.data.toList.length !=0)=false) (hx:Nw B w0 (f+1) (nodeC 16 pos n m name (.slice ko kl kc)).toList):Wq B w0 wb 25 (nodeC 16 pos n m name (.slice ko kl kc)) (tok (f+1) w0 (nodeC 16 pos n m name (.slice ko kl kc)).toList):=by
 intro w ts0 h hf
 have hcap:=hx.cap
 obtain⟨vs,hkl,hr,hg,htok,hs,hc⟩:=hx.opened
 rw[htok] at hf⊢
 clear htok hx
 have hn:=NK.of hr hg (by unfold kidK frK;omega)
 replace hnm:(name.data.toList.length !=0)=false:=hnm
 obtain rfl:=nm_empty hnm
 have e:asm 16 n m (⟨#[]⟩:ByteArray).data.toList (vs.map (kdAt f w0))=[38]::(pWhen false [(tl ⟨#[]⟩)]++(pWhen (n==1) [[109,117,116]]++(pAll (vs.map (kdAt f w0))++[]))):=by
  show [38]::(pNm (tl ⟨#[]⟩)++(pWhen (n==1) [[109,117,116]]++pAll (vs.map (kdAt f w0))))=_;rw[show pNm (tl ⟨#[]⟩)=pWhen false [(tl ⟨#[]⟩)] from by unfold pNm;rw[show((tl ⟨#[]⟩).length !=0)=false from rfl],List.append_nil]
 rw[e] at hf⊢
 clear e
 have q:=(Sp.start h hf).box (nodeC 16 pos n m ⟨#[]⟩ (.slice ko kl kc))
 have HL:Hid (NK B w0 f ko vs∧vs.length=kl):=⟨hn,hkl⟩
 clear h hf hr hg hc hkl hcap hn hnm
 have F:=q.f1
 go_enter Tryz.func25,Tryz.ntmps25
 go_wp2_with (first
  |(go_at_call 47;refine q.put ?_;clear q F;intro w2 q;have F:=q.f1)
  |(go_at_call 56;refine q.when (ss:=[⟨#[]⟩]) ?_;clear q F;intro w2 q;have F:=q.f1)
  |(go_at_call 56;refine q.when (ss:=[⟨#[109,117,116]⟩]) ?_;clear q F;intro w2 q;have F:=q.f1)
  |(go_at_call 46;refine q.go (fun a1 a2=>nodes46 hR HL.out.1 HL.out.2 a1 a2) ?_;clear q F;intro w2 q;have F:=q.f1))
 all_goals(go_end0;exact q.done (by simp<;>rfl))
set_option maxRecDepth 100000 in
set_option maxHeartbeats 1000000 in
theorem p25_17a (hR:RP B w0 wb f) (hm:Mx B w0) (ht:Tab B w0) (hnm:(name.data.toList.length !=0)=false) (hx:Nw B w0 (f+1) (nodeC 17 pos n m name (.slice ko kl kc)).toList):Wq B w0 wb 25 (nodeC 17 pos n m name (.slice ko kl kc)) (tok (f+1) w0 (nodeC 17 pos n m name (.slice ko kl kc)).toList):=by
 intro w ts0 h hf
 have hcap:=hx.cap
 obtain⟨vs,hkl,hr,hg,htok,hs,hc⟩:=hx.opened
 rw[htok] at hf⊢
 clear htok hx
 have hn:=NK.of hr hg (by unfold kidK frK;omega)
 obtain⟨last,rfl⟩:∃l1,kl=l1+1:=by
  have:=(hg.fnt rfl).1
  cases vs with
  |nil=>exact absurd rfl this
  |cons a r=>exact⟨r.length,by rw[←hkl];rfl⟩
 replace hnm:(name.data.toList.length !=0)=false:=hnm
 obtain rfl:=nm_empty hnm
 obtain⟨k0,p0,a0,b0,s0,o0,l0,c0,g,X0,Y0,Z0,e0,y0,z0,rfl,W0,WO0,WR0,C0⟩:=kid_p hR hn hc (i:=last) (by omega)
 obtain⟨us,hus⟩:∃us,us=vs.take last:=⟨_,rfl⟩
 have hul:us.length=last:=by rw[hus,List.length_take];omega
 have em:(vs.map (kdAt f w0)).take last=us.map (kdAt f w0):=by rw[hus,List.map_take]
 have hb:=hn.row.few
 rw[hkl] at hb
 have e:asm 17 n m (⟨#[]⟩:ByteArray).data.toList (vs.map (kdAt f w0))=[102,110]::(pWhen false [(tl ⟨#[]⟩)]++(pFn n++(pRow [40] [41] (us.map (kdAt f w0))++([45,62]::(X0++[]))))):=by
  show [102,110]::(pNm (tl ⟨#[]⟩)++(pFn n++(pRow [40] [41] ((vs.map (kdAt f w0)).take ((vs.map (kdAt f w0)).length - 1))++([45,62]::(kd (vs.map (kdAt f w0)) ((vs.map (kdAt f w0)).length - 1)).t))))=_;rw[show(vs.map (kdAt f w0)).length - 1=last from by rw[List.length_map];omega,em,e0,List.append_nil];rw[show pNm (tl ⟨#[]⟩)=pWhen false [(tl ⟨#[]⟩)] from by unfold pNm;rw[show((tl ⟨#[]⟩).length !=0)=false from rfl]]
 rw[e] at hf⊢
 clear e
 have q:=(Sp.start h hf).box (nodeC 17 pos n m ⟨#[]⟩ (.slice (some ⟨g,0,none⟩) (last+1) kc))
 have HW0:Hid (Wq B w0 wb 14 (nodeC k0 p0 a0 b0 s0 (.slice o0 l0 c0)) X0):=W0
 have HC0:Hid (∀W,Below B w0 W→B≤W.heap.size→g<W.heap.size∧∀j,j<11→W.cell? ⟨g,last*11+j,none⟩=(nodeC k0 p0 a0 b0 s0 (.slice o0 l0 c0)).toList[j]?):=C0
 have HL:Hid (NK B w0 f (some ⟨g,0,none⟩) us∧us.length=last):=⟨hus▸hn.take last,hul⟩
 have hI1:(last:Int)≤(kc:Int):=by omega
 have hI2:(last:Int)<(last:Int)+1:=by omega
 have hb1:(last:Int)≤20000:=by omega
 clear e0 y0 z0 W0 WO0 WR0 C0
 clear h hf hr hg hc hkl hcap hn hnm hus hul em hb
 have F:=q.f1
 have lg:=(HC0.out _ q.wr.bel q.wr.base).1
 have G0:=kidn (HC0.out _ q.wr.bel q.wr.base).2
 go_enter Tryz.func25,Tryz.ntmps25
 go_wp2_with (first
  |(go_at_call 47;refine q.put ?_;clear q F lg G0;intro w2 q;have F:=q.f1;have lg:=(HC0.out _ q.wr.bel q.wr.base).1;have G0:=kidn (HC0.out _ q.wr.bel q.wr.base).2)
  |(go_at_call 56;refine q.when (ss:=[⟨#[]⟩]) ?_;clear q F lg G0;intro w2 q;have F:=q.f1;have lg:=(HC0.out _ q.wr.bel q.wr.base).1;have G0:=kidn (HC0.out _ q.wr.bel q.wr.base).2)
  |(go_at_call 59;refine q.go (fun a1 a2=>fnKind59 n a1 a2) ?_;clear q F lg G0;intro w2 q;have F:=q.f1;have lg:=(HC0.out _ q.wr.bel q.wr.base).1;have G0:=kidn (HC0.out _ q.wr.bel q.wr.base).2)
  |(go_at_call 58;refine q.go (fun a1 a2=>row58 hR ⟨#[40]⟩ ⟨#[41]⟩ HL.out.1 HL.out.2 a1 a2) ?_;clear q F lg G0;intro w2 q;have F:=q.f1;have lg:=(HC0.out _ q.wr.bel q.wr.base).1;have G0:=kidn (HC0.out _ q.wr.bel q.wr.base).2)
  |(go_at_call 14;refine q.go (fun a1 a2=>HW0.out a1 a2) ?_;clear q F lg G0;intro w2 q;have F:=q.f1;have lg:=(HC0.out _ q.wr.bel q.wr.base).1;have G0:=kidn (HC0.out _ q.wr.bel q.wr.base).2))
 all_goals(go_end0;exact q.done (by simp<;>rfl))
set_option maxRecDepth 100000 in
set_option maxHeartbeats 1000000 in
theorem p25_16b (hR:RP B w0 wb f) (hm:Mx B w0) (ht:Tab B w0) (hnm:(name.data.toList.length !=0)=true) (hx:Nw B w0 (f+1) (nodeC 16 pos n m name (.slice ko kl kc)).toList):Wq B w0 wb 25 (nodeC 16 pos n m name (.slice ko kl kc)) (tok (f+1) w0 (nodeC 16 pos n m name (.slice ko kl kc)).toList):=by
 intro w ts0 h hf
 have hcap:=hx.cap
 obtain⟨vs,hkl,hr,hg,htok,hs,hc⟩:=hx.opened
 rw[htok] at hf⊢
 clear htok hx
 have hn:=NK.of hr hg (by unfold kidK frK;omega)
 replace hnm:(name.data.toList.length !=0)=true:=hnm
 have hne:=nm_some hnm
 have e:asm 16 n m (name:ByteArray).data.toList (vs.map (kdAt f w0))=[38]::(pWhen true [(tl name)]++(pWhen (n==1) [[109,117,116]]++(pAll (vs.map (kdAt f w0))++[]))):=by
  show [38]::(pNm (tl name)++(pWhen (n==1) [[109,117,116]]++pAll (vs.map (kdAt f w0))))=_;rw[show pNm (tl name)=pWhen true [(tl name)] from by unfold pNm;rw[show((tl name).length !=0)=true from hnm],List.append_nil]
 rw[e] at hf⊢
 clear e
 have q:=(Sp.start h hf).box (nodeC 16 pos n m name (.slice ko kl kc))
 have HL:Hid (NK B w0 f ko vs∧vs.length=kl):=⟨hn,hkl⟩
 clear h hf hr hg hc hkl hcap hn hnm
 have F:=q.f1
 go_enter Tryz.func25,Tryz.ntmps25
 go_wp2_with (first
  |(go_at_call 47;refine q.put ?_;clear q F;intro w2 q;have F:=q.f1)
  |(go_at_call 56;refine q.when (ss:=[name]) ?_;clear q F;intro w2 q;have F:=q.f1)
  |(go_at_call 56;refine q.when (ss:=[⟨#[109,117,116]⟩]) ?_;clear q F;intro w2 q;have F:=q.f1)
  |(go_at_call 46;refine q.go (fun a1 a2=>nodes46 hR HL.out.1 HL.out.2 a1 a2) ?_;clear q F;intro w2 q;have F:=q.f1))
 all_goals(go_end0;exact q.done (by simp<;>rfl))
set_option maxRecDepth 100000 in
set_option maxHeartbeats 1000000 in
theorem p25_17b (hR:RP B w0 wb f) (hm:Mx B w0) (ht:Tab B w0) (hnm:(name.data.toList.length !=0)=true) (hx:Nw B w0 (f+1) (nodeC 17 pos n m name (.slice ko kl kc)).toList):Wq B w0 wb 25 (nodeC 17 pos n m name (.slice ko kl kc)) (tok (f+1) w0 (nodeC 17 pos n m name (.slice ko kl kc)).toList):=by
 intro w ts0 h hf
 have hcap:=hx.cap
 obtain⟨vs,hkl,hr,hg,htok,hs,hc⟩:=hx.opened
 rw[htok] at hf⊢
 clear htok hx
 have hn:=NK.of hr hg (by unfold kidK frK;omega)
 obtain⟨last,rfl⟩:∃l1,kl=l1+1:=by
  have:=(hg.fnt rfl).1
  cases vs with
  |nil=>exact absurd rfl this
  |cons a r=>exact⟨r.length,by rw[←hkl];rfl⟩
 replace hnm:(name.data.toList.length !=0)=true:=hnm
 have hne:=nm_some hnm
 obtain⟨k0,p0,a0,b0,s0,o0,l0,c0,g,X0,Y0,Z0,e0,y0,z0,rfl,W0,WO0,WR0,C0⟩:=kid_p hR hn hc (i:=last) (by omega)
 obtain⟨us,hus⟩:∃us,us=vs.take last:=⟨_,rfl⟩
 have hul:us.length=last:=by rw[hus,List.length_take];omega
 have em:(vs.map (kdAt f w0)).take last=us.map (kdAt f w0):=by rw[hus,List.map_take]
 have hb:=hn.row.few
 rw[hkl] at hb
 have e:asm 17 n m (name:ByteArray).data.toList (vs.map (kdAt f w0))=[102,110]::(pWhen true [(tl name)]++(pFn n++(pRow [40] [41] (us.map (kdAt f w0))++([45,62]::(X0++[]))))):=by
  show [102,110]::(pNm (tl name)++(pFn n++(pRow [40] [41] ((vs.map (kdAt f w0)).take ((vs.map (kdAt f w0)).length - 1))++([45,62]::(kd (vs.map (kdAt f w0)) ((vs.map (kdAt f w0)).length - 1)).t))))=_;rw[show(vs.map (kdAt f w0)).length - 1=last from by rw[List.length_map];omega,em,e0,List.append_nil];rw[show pNm (tl name)=pWhen true [(tl name)] from by unfold pNm;rw[show((tl name).length !=0)=true from hnm]]
 rw[e] at hf⊢
 clear e
 have q:=(Sp.start h hf).box (nodeC 17 pos n m name (.slice (some ⟨g,0,none⟩) (last+1) kc))
 have HW0:Hid (Wq B w0 wb 14 (nodeC k0 p0 a0 b0 s0 (.slice o0 l0 c0)) X0):=W0
 have HC0:Hid (∀W,Below B w0 W→B≤W.heap.size→g<W.heap.size∧∀j,j<11→W.cell? ⟨g,last*11+j,none⟩=(nodeC k0 p0 a0 b0 s0 (.slice o0 l0 c0)).toList[j]?):=C0
 have HL:Hid (NK B w0 f (some ⟨g,0,none⟩) us∧us.length=last):=⟨hus▸hn.take last,hul⟩
 have hI1:(last:Int)≤(kc:Int):=by omega
 have hI2:(last:Int)<(last:Int)+1:=by omega
 have hb1:(last:Int)≤20000:=by omega
 clear e0 y0 z0 W0 WO0 WR0 C0
 clear h hf hr hg hc hkl hcap hn hnm hus hul em hb
 have F:=q.f1
 have lg:=(HC0.out _ q.wr.bel q.wr.base).1
 have G0:=kidn (HC0.out _ q.wr.bel q.wr.base).2
 go_enter Tryz.func25,Tryz.ntmps25
 go_wp2_with (first
  |(go_at_call 47;refine q.put ?_;clear q F lg G0;intro w2 q;have F:=q.f1;have lg:=(HC0.out _ q.wr.bel q.wr.base).1;have G0:=kidn (HC0.out _ q.wr.bel q.wr.base).2)
  |(go_at_call 56;refine q.when (ss:=[name]) ?_;clear q F lg G0;intro w2 q;have F:=q.f1;have lg:=(HC0.out _ q.wr.bel q.wr.base).1;have G0:=kidn (HC0.out _ q.wr.bel q.wr.base).2)
  |(go_at_call 59;refine q.go (fun a1 a2=>fnKind59 n a1 a2) ?_;clear q F lg G0;intro w2 q;have F:=q.f1;have lg:=(HC0.out _ q.wr.bel q.wr.base).1;have G0:=kidn (HC0.out _ q.wr.bel q.wr.base).2)
  |(go_at_call 58;refine q.go (fun a1 a2=>row58 hR ⟨#[40]⟩ ⟨#[41]⟩ HL.out.1 HL.out.2 a1 a2) ?_;clear q F lg G0;intro w2 q;have F:=q.f1;have lg:=(HC0.out _ q.wr.bel q.wr.base).1;have G0:=kidn (HC0.out _ q.wr.bel q.wr.base).2)
  |(go_at_call 14;refine q.go (fun a1 a2=>HW0.out a1 a2) ?_;clear q F lg G0;intro w2 q;have F:=q.f1;have lg:=(HC0.out _ q.wr.bel q.wr.base).1;have G0:=kidn (HC0.out _ q.wr.bel q.wr.base).2))
 all_goals(go_end0;exact q.done (by simp<;>rfl))
end
end Go.Proofs.YtagdihffmjopaaaGreatDoor
namespace Go.Proofs.YtagdihffmjopaaaGreatDoor
set_option linter.all false
open Go.RowKit
theorem join_head:∀(ns:List (List UInt8)),ns≠[]→(∀n∈ns,n≠[]∧(58:UInt8)∉n)→∃a t,joinP ns=a::t∧a≠58
 |[],h,_=>absurd rfl h
 |[n],_,hn=>by
  obtain⟨h1,h2⟩:=hn n (List.mem_cons_self ..)
  cases n with
  |nil=>exact absurd rfl h1
  |cons a t=>exact⟨a,t,rfl,fun e=>h2 (by rw[e];exact List.mem_cons_self ..)⟩
 |n::m::r,_,hn=>by
  obtain⟨h1,h2⟩:=hn n (List.mem_cons_self ..)
  cases n with
  |nil=>exact absurd rfl h1
  |cons a t=>exact⟨a,t++58::58::joinP (m::r),rfl,fun e=>h2 (by rw[e];exact List.mem_cons_self ..)⟩
theorem join_tri:∀(ns:List (List UInt8)),ns≠[]→(∀n∈ns,n≠[]∧(58:UInt8)∉n)→∀i:Nat,(joinP ns)[i]? =some 58→(joinP ns)[i+1]? =some 58→(joinP ns)[i+2]? ≠some 58
 |[],h,_=>absurd rfl h
 |[n],_,hn=>fun i h1 _=>absurd (List.mem_of_getElem? h1) (hn n (List.mem_cons_self ..)).2
 |n::m::r,_,hn=>fun i h1 h2 h3=>by
  have hr:∀x∈m::r,x≠[]∧(58:UInt8)∉x:=fun x hx=>hn x (List.mem_cons_of_mem _ hx)
  obtain⟨a,t,e,ha⟩:=join_head (m::r) (by simp) hr
  have hnn:=(hn n (List.mem_cons_self ..)).2
  have ej:joinP (n::m::r)=n++58::58::joinP (m::r):=rfl
  rw[ej] at h1 h2 h3
  rcases Nat.lt_or_ge i n.length with hi|hi
  ·rw[List.getElem?_append_left hi] at h1
   exact hnn (List.mem_of_getElem? h1)
  ·obtain⟨k,rfl⟩:∃k,i=n.length+k:=⟨i - n.length,by omega⟩
   rw[List.getElem?_append_right (by omega),show n.length+k+1 - n.length=k+1 by omega] at h2
   rw[List.getElem?_append_right (by omega),show n.length+k+2 - n.length=k+2 by omega] at h3
   rw[List.getElem?_append_right (by omega),show n.length+k - n.length=k by omega] at h1
   cases k with
   |zero=>
    rw[e] at h3
    simp at h3
    exact ha h3
   |succ k=>
    cases k with
    |zero=>
     rw[e] at h2
     simp at h2
     exact ha h2
    |succ k=>
     simp only[List.getElem?_cons_succ] at h1 h2 h3
     exact join_tri (m::r) (by simp) hr k h1 h2 h3
theorem pathOK.ntl {k:Nat} {s:ByteArray} (h:pathOK k s):NTl s.data.toList:=by
 obtain⟨ns,h1,_,h3,h4⟩:=h
 have j:=join_tri ns h1 h3
 rw[←h4,Lib.toList_data] at j
 exact j
section
variable{B:Nat} {w0 w:World} {wb f:Nat} {bs:List UInt8} {kind pos n m:Int} {name:ByteArray} {ko:Option Addr} {kl kc:Nat}
theorem list97n (hR:RN B w0 wb f) {a:Option Addr} {c l:Nat} {ks:List (List Value)} (r:NR B w0 f a ks) (hk:∀x∈ks,noK (labOf x)) (hl:ks.length=l) (h:Wr B w0 w wb bs) (hne:bs≠[]) (hf:(bs++glue (pSep [44] (ks.map (kdAt f w0)))).length≤1099511627776):Calls Tryz.prog 97 #[.pointer (some ⟨wb,0,none⟩),.slice a l c] w (WP B w0 w wb bs (pSep [44] (ks.map (kdAt f w0)))):=by
 subst hl
 exact list97 hR r hk h hne hf
theorem written114n (hR:RN B w0 wb f) {a:Option Addr} {c l:Nat} {ks:List (List Value)} (r:NR B w0 f a ks) (hk:∀x∈ks,noK (labOf x)) (hl:ks.length=l) (h:Wr B w0 w wb bs) (hne:bs≠[]) (hf:(bs++glue (pTys (ks.map (kdAt f w0)))).length≤1099511627776):Calls Tryz.prog 114 #[.pointer (some ⟨wb,0,none⟩),.slice a l c] w (WP B w0 w wb bs (pTys (ks.map (kdAt f w0)))):=by
 subst hl
 exact written114 hR r hk h hne hf
theorem caps133n {a:Option Addr} {c l:Nat} {ks:List (List Value)} (r:NR B w0 f a ks) (hk:∀x∈ks,labOf x=47) (hl:ks.length=l) (h:Wr B w0 w wb bs) (hne:bs≠[]) (hf:(bs++glue (pRow [91] [93] (ks.map (kdAt f w0)))).length≤1099511627776):Calls Tryz.prog 133 #[.pointer (some ⟨wb,0,none⟩),.slice a l c] w (WP B w0 w wb bs (pRow [91] [93] (ks.map (kdAt f w0)))):=by
 subst hl
 exact caps133 r hk h hne hf
theorem params95n (hRs:∀g,g≤f→RN B w0 wb g) {a:Option Addr} {c l:Nat} {ks:List (List Value)} (r:NR B w0 f a ks) (hk:∀x∈ks,labOf x=12) (hl:ks.length=l) (h:Wr B w0 w wb bs) (hne:bs≠[]) (hf:(bs++glue (pRow [40] [41] (ks.map (kdAt f w0)))).length≤1099511627776):Calls Tryz.prog 95 #[.pointer (some ⟨wb,0,none⟩),.slice a l c] w (WP B w0 w wb bs (pRow [40] [41] (ks.map (kdAt f w0)))):=by
 subst hl
 exact params95 hRs r hk h hne hf
end
end Go.Proofs.YtagdihffmjopaaaGreatDoor
