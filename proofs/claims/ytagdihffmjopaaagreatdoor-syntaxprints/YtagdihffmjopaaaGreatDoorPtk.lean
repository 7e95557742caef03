/- The document's writer: data types. -/
import Derived.Test.YtagdihffmjopaaaGreatDoorPtj
namespace Go.Proofs.YtagdihffmjopaaaGreatDoor
set_option linter.all false
open Go.RowKit
section
variable{B:Nat} {w0 w:World} {wb f:Nat} {bs:List UInt8} {kind pos n m:Int} {name:ByteArray} {ko:Option Addr} {kl kc:Nat}
theorem lab104 {k p n m:Int} {s:ByteArray} {v:Value} (h:labOf (nodeC k p n m s v).toList=104):k=4∧s.size=0:=by
 have h2:lab k n m s (lenOf v)=104:=h
 unfold lab at h2
 split at h2
 ·split at h2<;>split at h2<;>omega
 ·split at h2
  ·split at h2
   ·exact⟨‹_›,‹_›⟩
   ·omega
  ·split at h2
   ·split at h2
    ·split at h2<;>omega
    ·omega
   ·split at h2
    ·split at h2<;>omega
    ·split at h2<;>omega
theorem lab4 {k p n m:Int} {s:ByteArray} {v:Value} (h:labOf (nodeC k p n m s v).toList=4):k=4∧s.size≠0:=by
 have h2:lab k n m s (lenOf v)=4:=h
 unfold lab at h2
 split at h2
 ·split at h2<;>split at h2<;>omega
 ·split at h2
  ·split at h2
   ·omega
   ·exact⟨‹_›,‹_›⟩
  ·split at h2
   ·split at h2
    ·split at h2<;>omega
    ·omega
   ·split at h2
    ·split at h2<;>omega
    ·split at h2<;>omega
theorem lab105 {k p n m:Int} {s:ByteArray} {v:Value} (h:labOf (nodeC k p n m s v).toList=105):k=5∧s.size≠0:=by
 have h2:lab k n m s (lenOf v)=105:=h
 unfold lab at h2
 split at h2
 ·split at h2<;>split at h2<;>omega
 ·split at h2
  ·split at h2<;>omega
  ·split at h2
   ·split at h2
    ·split at h2<;>omega
    ·exact⟨‹_›,‹_›⟩
   ·split at h2
    ·split at h2<;>omega
    ·split at h2<;>omega
theorem lab5 {k p n m:Int} {s:ByteArray} {v:Value} (h:labOf (nodeC k p n m s v).toList=5):k=5∧s.size=0∧m=0:=by
 have h2:lab k n m s (lenOf v)=5:=h
 unfold lab at h2
 split at h2
 ·split at h2<;>split at h2<;>omega
 ·split at h2
  ·split at h2<;>omega
  ·split at h2
   ·split at h2
    ·split at h2
     ·exact⟨‹_›,‹_›,‹_›⟩
     ·omega
    ·omega
   ·split at h2
    ·split at h2<;>omega
    ·split at h2<;>omega
theorem var_open (hx:Nw B w0 f (nodeC kind pos n m name (.slice ko kl kc)).toList) (h1:labOf (nodeC kind pos n m name (.slice ko kl kc)).toList=104):∃(hh:Nat) (fs:List (List Value)),hh≤f∧NR B w0 hh ko fs∧(∀x∈fs,labOf x=105)∧fs.length=kl∧tok f w0 (nodeC kind pos n m name (.slice ko kl kc)).toList=pRow [123] [125] (fs.map (kdAt hh w0)):=by
 obtain⟨rfl,hs⟩:=lab104 h1
 cases f with
 |zero=>exact absurd hx (fun x=>x)
 |succ f=>
  obtain⟨vs,hl,hr,hg,ht,-,hc⟩:=hx.opened
  refine⟨f,vs,Nat.le_succ f,hr,fun x hx=>?_,hl,?_⟩
  ·have:=hg.variant rfl _ (List.mem_map.2 ⟨x,hx,rfl⟩)
   rwa [if_pos hs] at this
  ·rw[ht]
   show(if name.data.toList.length=0 then _ else _)=_
   rw[if_pos (by rw[size_list];exact hs)]
theorem var4_open (hx:Nw B w0 f (nodeC kind pos n m name (.slice ko kl kc)).toList) (h1:labOf (nodeC kind pos n m name (.slice ko kl kc)).toList=4):∃(hh:Nat) (fs:List (List Value)),hh≤f∧NR B w0 hh ko fs∧(∀x∈fs,labOf x=5)∧fs.length=kl∧tok f w0 (nodeC kind pos n m name (.slice ko kl kc)).toList=tl name::pRnd (fs.map (kdAt hh w0)):=by
 obtain⟨rfl,hs⟩:=lab4 h1
 cases f with
 |zero=>exact absurd hx (fun x=>x)
 |succ f=>
  obtain⟨vs,hl,hr,hg,ht,-,hc⟩:=hx.opened
  refine⟨f,vs,Nat.le_succ f,hr,fun x hx=>?_,hl,?_⟩
  ·have:=hg.variant rfl _ (List.mem_map.2 ⟨x,hx,rfl⟩)
   rwa [if_neg hs] at this
  ·rw[ht]
   show(if name.data.toList.length=0 then _ else _)=_
   rw[if_neg (by rw[size_list];exact hs)]
   rfl
theorem field_open (hRs:∀g,g≤f→RN B w0 wb g) (hx:Nw B w0 f (nodeC kind pos n m name (.slice ko kl kc)).toList) (h1:labOf (nodeC kind pos n m name (.slice ko kl kc)).toList=105):∃(k p a b:Int) (s:ByteArray) (o:Option Addr) (l c g:Nat) (T:List (List UInt8)),ko=some ⟨g,0,none⟩∧kl=1∧Wc B w0 wb 76 (nodeC k p a b s (.slice o l c)) T∧(∀W,Below B w0 W→B≤W.heap.size→g<W.heap.size∧∀j,j<11→W.cell? ⟨g,0*11+j,none⟩=(nodeC k p a b s (.slice o l c)).toList[j]?)∧tok f w0 (nodeC kind pos n m name (.slice ko kl kc)).toList=pWhen (m==1) [[112,117,98]]++(tl name::[58]::T):=by
 obtain⟨rfl,hs⟩:=lab105 h1
 obtain⟨k,p,a,b,s,o,l,c,g,T,e1,e2,e3,e4,e5⟩:=one_open hRs hx (fun ks hg=>by
  obtain⟨x,e,hx⟩:=hg.field rfl
  exact⟨x,e,hx.no⟩)
 refine⟨k,p,a,b,s,o,l,c,g,T,e1,e2,e3,e4,?_⟩
 rw[e5]
 show pWhen (m==1) [[112,117,98]]++(pWhen (name.data.toList.length !=0) [name.data.toList,[58]]++pAll [⟨k,l,T⟩])=_
 rw[show(name.data.toList.length !=0)=true from by rw[size_list];simpa using hs]
 simp[pWhen,pAll,tl]
theorem field5_open (hRs:∀g,g≤f→RN B w0 wb g) (hx:Nw B w0 f (nodeC kind pos n m name (.slice ko kl kc)).toList) (h1:labOf (nodeC kind pos n m name (.slice ko kl kc)).toList=5):∃(k p a b:Int) (s:ByteArray) (o:Option Addr) (l c g:Nat) (T:List (List UInt8)),ko=some ⟨g,0,none⟩∧kl=1∧Wc B w0 wb 76 (nodeC k p a b s (.slice o l c)) T∧(∀W,Below B w0 W→B≤W.heap.size→g<W.heap.size∧∀j,j<11→W.cell? ⟨g,0*11+j,none⟩=(nodeC k p a b s (.slice o l c)).toList[j]?)∧tok f w0 (nodeC kind pos n m name (.slice ko kl kc)).toList=T:=by
 obtain⟨rfl,hs,rfl⟩:=lab5 h1
 obtain⟨k,p,a,b,s,o,l,c,g,T,e1,e2,e3,e4,e5⟩:=one_open hRs hx (fun ks hg=>by
  obtain⟨x,e,hx⟩:=hg.field rfl
  exact⟨x,e,hx.no⟩)
 refine⟨k,p,a,b,s,o,l,c,g,T,e1,e2,e3,e4,?_⟩
 rw[e5]
 show pWhen ((0:Int)==1) [[112,117,98]]++(pWhen (name.data.toList.length !=0) [name.data.toList,[58]]++pAll [⟨k,l,T⟩])=_
 rw[show(name.data.toList.length !=0)=false from by rw[size_list];simpa using hs]
 simp[pWhen,pAll]
set_option maxRecDepth 100000 in
set_option maxHeartbeats 2000000 in
theorem e73_3s0 (hRs:∀g,g≤f→RN B w0 wb g) (ht:Tab B w0) (hn0:n=0) (hm2:¬2≤m) {F:List (List UInt8)} (hx:Nw B w0 (f+1) (nodeC 3 pos n m name (.slice ko kl kc)).toList) (hF:tok (f+1) w0 (nodeC 3 pos n m name (.slice ko kl kc)).toList=pWhen (m%2==1) [[112,117,98]]++F):Wc B w0 wb 73 (nodeC 3 pos n m name (.slice ko kl kc)) F:=by
 intro w bs h hne hf
 have hR:RN B w0 wb f:=@hRs f (Nat.le_refl f)
 have hcap:=hx.cap
 obtain⟨vs,hkl,hr,hg,htok,hs,hc⟩:=hx.opened
 rw[htok] at hF
 clear htok hx
 obtain rfl:n=0:=hn0
 have eks:vs.map labOf=[9,104]:=by
  rcases(hg.data rfl).2 with⟨-,h9⟩|⟨h9,-⟩
  ·exact h9
  ·omega
 obtain rfl:kl=2:=by
  have h9:=congrArg List.length eks
  simp at h9;omega
 have HRs:Hid (∀g,g≤f→RN B w0 wb g):=fun g hg=>@hRs g hg
 obtain⟨k0,p0,a0,b0,s0,o0,l0,c0,g,X0,Y0,Z0,e0,y0,z0,rfl,W0,WO0,WR0,C0⟩:=(kid_gw (fun g hg=>@hRs g hg) ht) hr hc (i:=0) (by omega) (fun x hx=>lab_nth (by rw[eks];rfl) hx)
 obtain⟨k1,p1,a1,b1,s1,o1,l1,c1,g1,hv1,hx1,eg1,C1⟩:=kid_open hr hc (i:=1) (by omega)
 obtain rfl:g=g1:=by simpa using eg1
 have hlb1:labOf (nodeC k1 p1 a1 b1 s1 (.slice o1 l1 c1)).toList=104:=lab_nth (i:=1) (by rw[eks];rfl) hv1
 obtain⟨hh,fs,hhle,hrf,hkf,hlf,hT1⟩:=var_open hx1 hlb1
 subst hlf
 have e1:kd (vs.map (kdAt f w0)) 1=⟨k1,fs.length,pRow [123] [125] (fs.map (kdAt hh w0))⟩:=by
  unfold kd
  rw[List.getElem?_map,hv1]
  show kdAt f w0 _=_
  unfold kdAt
  rw[hT1]
  rfl
 have hfew:=hrf.few
 have e:asm 3 0 m (name:ByteArray).data.toList (vs.map (kdAt f w0))=pWhen (m%2==1) [[112,117,98]]++([115,116,114,117,99,116]::(tl name::(X0++([123]::(pSep [44] (fs.map (kdAt hh w0))++[[125]]))))):=by
  show pWhen (m%2==1) [[112,117,98]]++pWhen (decide (2≤m)) [[99,111,112,121]]++([115,116,114,117,99,116]::tl name::pAll (vs.map (kdAt f w0)))=_
  rw[decide_eq_false hm2]
  have h9:(vs.map (kdAt f w0))=[kd (vs.map (kdAt f w0)) 0,kd (vs.map (kdAt f w0)) 1]:=by
   match vs,hkl with
   |[v0,v1],_=>rfl
  rw[h9,e0,e1]
  simp[pWhen,pAll,pRow]
 obtain rfl:F=[115,116,114,117,99,116]::(tl name::(X0++([123]::(pSep [44] (fs.map (kdAt hh w0))++[[125]])))):=List.append_cancel_left (hF.symm.trans e)
 clear e hF
 have q:=(Sw.start h hne hf).box (nodeC 3 pos 0 m name (.slice (some ⟨g,0,none⟩) 2 kc))
 have HW0:Hid (Wc B w0 wb 75 (nodeC k0 p0 a0 b0 s0 (.slice o0 l0 c0)) X0):=W0
 have HC0:Hid (∀W,Below B w0 W→B≤W.heap.size→g<W.heap.size∧∀j,j<11→W.cell? ⟨g,0*11+j,none⟩=(nodeC k0 p0 a0 b0 s0 (.slice o0 l0 c0)).toList[j]?):=C0
 have HC1:Hid (∀W,Below B w0 W→B≤W.heap.size→g<W.heap.size∧∀j,j<11→W.cell? ⟨g,1*11+j,none⟩=(nodeC k1 p1 a1 b1 s1 (.slice o1 fs.length c1)).toList[j]?):=C1
 have HL:Hid (NR B w0 hh o1 fs∧(∀x∈fs,labOf x=105)∧fs.length=fs.length):=⟨hrf,hkf,rfl⟩
 have HRh:Hid (∀g,g≤hh→RN B w0 wb g):=fun g hg=>by have h9:=HRs.out;exact @h9 g (Nat.le_trans hg hhle)
 have G1:=kid1 (HC1.out _ q.wr.bel q.wr.base).2
 have hm2I:¬2≤m:=hm2
 clear e0 y0 z0 W0 WO0 WR0 C0
 clear h hne hf hr hg hc hkl hcap hRs eks hv1 hx1 eg1 C1 hlb1 hrf hkf hT1 e1 hhle hm2
 have F:=q.f1
 have lg:=(HC0.out _ q.wr.bel q.wr.base).1
 have G0:=kid0 (HC0.out _ q.wr.bel q.wr.base).2
 obtain⟨nb,hnb⟩:∃nb,nb=w.heap.size:=⟨_,rfl⟩
 go_enter Tryz.func73,Tryz.ntmps73
 go_wp2_with (first
  |(go_at_call 75;refine q.go (fun a1 a2 a3=>HW0.out a1 a2 a3) ?_;clear q F lg G0 G1;intro w2 q;have F:=q.f1;have lg:=(HC0.out _ q.wr.bel q.wr.base).1;have G0:=kid0 (HC0.out _ q.wr.bel q.wr.base).2;have G1:=kid1 (HC1.out _ q.wr.bel q.wr.base).2)
  |(go_at_call 33;refine q.put ?_;clear q F lg G0 G1;intro w2 q;have F:=q.f1;have lg:=(HC0.out _ q.wr.bel q.wr.base).1;have G0:=kid0 (HC0.out _ q.wr.bel q.wr.base).2;have G1:=kid1 (HC1.out _ q.wr.bel q.wr.base).2))
 rw[←hnb] at q F⊢
 clear hnb
 go_loopg [43] fs.length (fun gg u wr=>∃(idx:Nat) (ts:List (List UInt8)),gg=fs.length - idx∧u=.int .i64 idx∧idx≤fs.length∧Hid (ts++pRest [44] (fs.map (kdAt hh w0)) idx=([115,116,114,117,99,116]::(tl name::(X0++([[123]]))))++pSep [44] (fs.map (kdAt hh w0)))∧Hid (Sw B w0 w wb bs ts (pRest [44] (fs.map (kdAt hh w0)) idx++[[125]]) wr [(nb,(nodeC 3 pos 0 m name (.slice (some ⟨g,0,none⟩) 2 kc)))]))
 case atStart=>exact⟨0,_,rfl,rfl,Nat.zero_le _,(by show _=_;simp[pRest]),q⟩
 case round=>
  clear q F
  obtain⟨idx,ts,hgk,rfl,hidx,HT,Q⟩:=hrel
  have HG:Hid (gk=fs.length - idx):=hgk
  clear hgk
  by_cases hlt:idx<fs.length
  ·have hltI:(idx:Int)<(fs.length:Int):=by omega
   obtain⟨x,hx⟩:∃x,fs[idx]? =some x:=⟨_,List.getElem?_eq_getElem hlt⟩
   obtain⟨gx,ox,hax,hgB,hcell⟩:=HL.out.1.cell idx x hx
   have hmem:=List.mem_of_getElem? hx
   obtain⟨kind2,pos2,n2,m2,name2,ko2,kl2,kc2,rfl,-,-⟩:=(HL.out.1.all x hmem).fields
   have HX:Hid (Nw B w0 hh (nodeC kind2 pos2 n2 m2 name2 (.slice ko2 kl2 kc2)).toList∧labOf (nodeC kind2 pos2 n2 m2 name2 (.slice ko2 kl2 kc2)).toList=105∧(fs.map (kdAt hh w0))[idx]? =some (kdAt hh w0 (nodeC kind2 pos2 n2 m2 name2 (.slice ko2 kl2 kc2)).toList)):=⟨HL.out.1.all _ hmem,HL.out.2.1 _ hmem,by rw[List.getElem?_map,hx];rfl⟩
   have lift:∀j,j<11→wr.cell? ⟨gx,ox+idx*11+j,none⟩=(nodeC kind2 pos2 n2 m2 name2 (.slice ko2 kl2 kc2)).toList[j]? :=fun j hj=>(Q.out.wr.bel.cell (p:=⟨gx,ox+idx*11+j,none⟩) hgB).trans (hcell j hj)
   have lgx:gx<wr.heap.size:=Nat.lt_of_lt_of_le hgB Q.out.wr.base
   subst hax
   have e0:=lift 0 (by decide)
   have e1:=lift 1 (by decide)
   have e2:=lift 2 (by decide)
   have e3:=lift 3 (by decide)
   have e4:=lift 4 (by decide)
   have e5:=lift 5 (by decide)
   have e6:=lift 6 (by decide)
   have e7:=lift 7 (by decide)
   have e8:=lift 8 (by decide)
   have e9:=lift 9 (by decide)
   have e10:=lift 10 (by decide)
   simp only[Nat.add_zero,Nat.zero_add] at e0 e1 e2 e3 e4 e5 e6 e7 e8 e9 e10
   clear lift hcell hx hmem
   obtain⟨k3,p3,a3,b3,s3,o3,l3,c3,g3,T,hko,hkl2,HW',HC',hT⟩:=field_open HRh.out HX.out.1 HX.out.2.1
   subst hko hkl2
   have HW:Hid (Wc B w0 wb 76 (nodeC k3 p3 a3 b3 s3 (.slice o3 l3 c3)) T):=HW'
   have HC:Hid (∀W,Below B w0 W→B≤W.heap.size→g3<W.heap.size∧∀j,j<11→W.cell? ⟨g3,0*11+j,none⟩=(nodeC k3 p3 a3 b3 s3 (.slice o3 l3 c3)).toList[j]?):=HC'
   clear HW' HC'
   have lg2:=(HC.out _ Q.out.wr.bel Q.out.wr.base).1
   have G3:=kid0 (HC.out _ Q.out.wr.bel Q.out.wr.base).2
   obtain⟨KT,hKT⟩:∃KT,KT=pWhen (m2==1) [[112,117,98]]++(tl name2::[58]::T):=⟨_,rfl⟩
   have HKT:Hid (tok hh w0 (nodeC kind2 pos2 n2 m2 name2 (.slice (some ⟨g3,0,none⟩) 1 kc2)).toList=KT):=by show _=_;rw[hKT];exact hT
   clear hT
   rcases Nat.eq_zero_or_pos idx with h0|h0
   ·subst h0
    simp only[Nat.zero_mul,Nat.add_zero,Nat.zero_add] at e0 e1 e2 e3 e4 e5 e6 e7 e8 e9 e10
    have st:pRest [44] (fs.map (kdAt hh w0)) 0=KT++(pRest [44] (fs.map (kdAt hh w0)) (0+1)):=by rw[pRest_zero HX.out.2.2];exact congrArg (· ++_) HKT.out
    have HE:Hid (ts++([]++(KT++pRest [44] (fs.map (kdAt hh w0)) (0+1)))=([115,116,114,117,99,116]::(tl name::(X0++([[123]]))))++pSep [44] (fs.map (kdAt hh w0))):=by show _=_;rw[←HT.out,st];simp
    cases h2:(m2==1)
    ·have q:=((Q.out.as (rest':=[tl name2,[58]]++(T++(pRest [44] (fs.map (kdAt hh w0)) (0+1)++[[125]]))) (by rw[st,hKT];simp[pWhen,h2])).box (nodeC kind2 pos2 n2 m2 name2 (.slice (some ⟨g3,0,none⟩) 1 kc2)))
     have HE2:Hid (ts++(([tl name2,[58]])++(T)++pRest [44] (fs.map (kdAt hh w0)) (0+1))=([115,116,114,117,99,116]::(tl name::(X0++([[123]]))))++pSep [44] (fs.map (kdAt hh w0))):=by show _=_;rw[←HE.out,hKT];simp[pWhen,h2]
     clear st hKT
     have F:=q.f1
     go_wp2_with (first
      |(go_at_call 76;refine q.go (fun a1 a2 a3=>HW.out a1 a2 a3) ?_;clear q F lg2 G3;intro w2 q;have F:=q.f1;have lg2:=(HC.out _ q.wr.bel q.wr.base).1;have G3:=kid0 (HC.out _ q.wr.bel q.wr.base).2)
      |(go_at_call 31;refine q.puts (ss:=[name2,⟨#[58]⟩]) (hg:=by first|rfl|simp) (ho:=rfl) (hX:=rfl) (hn:=rfl) (hl:=by decide) ?_;clear q F lg2 G3;intro w2 q;have F:=q.f1;have lg2:=(HC.out _ q.wr.bel q.wr.base).1;have G3:=kid0 (HC.out _ q.wr.bel q.wr.base).2)
      |(go_at_call 33;refine q.put ?_;clear q F lg2 G3;intro w2 q;have F:=q.f1;have lg2:=(HC.out _ q.wr.bel q.wr.base).1;have G3:=kid0 (HC.out _ q.wr.bel q.wr.base).2))
     go_roundg (fs.length - (0+1))
     case measure=>rw[HG.out];omega
     case rel=>exact⟨0+1,_,rfl,by go_num,hlt,(by show _=_;have:=HE2.out;simpa using this),q.pop⟩
    ·have q:=((Q.out.as (rest':=[112,117,98]::([tl name2,[58]]++(T++(pRest [44] (fs.map (kdAt hh w0)) (0+1)++[[125]])))) (by rw[st,hKT];simp[pWhen,h2])).box (nodeC kind2 pos2 n2 m2 name2 (.slice (some ⟨g3,0,none⟩) 1 kc2)))
     have HE2:Hid (ts++([[112,117,98]]++([tl name2,[58]])++(T)++pRest [44] (fs.map (kdAt hh w0)) (0+1))=([115,116,114,117,99,116]::(tl name::(X0++([[123]]))))++pSep [44] (fs.map (kdAt hh w0))):=by show _=_;rw[←HE.out,hKT];simp[pWhen,h2]
     clear st hKT
     have F:=q.f1
     go_wp2_with (first
      |(go_at_call 76;refine q.go (fun a1 a2 a3=>HW.out a1 a2 a3) ?_;clear q F lg2 G3;intro w2 q;have F:=q.f1;have lg2:=(HC.out _ q.wr.bel q.wr.base).1;have G3:=kid0 (HC.out _ q.wr.bel q.wr.base).2)
      |(go_at_call 31;refine q.puts (ss:=[name2,⟨#[58]⟩]) (hg:=by first|rfl|simp) (ho:=rfl) (hX:=rfl) (hn:=rfl) (hl:=by decide) ?_;clear q F lg2 G3;intro w2 q;have F:=q.f1;have lg2:=(HC.out _ q.wr.bel q.wr.base).1;have G3:=kid0 (HC.out _ q.wr.bel q.wr.base).2)
      |(go_at_call 33;refine q.put ?_;clear q F lg2 G3;intro w2 q;have F:=q.f1;have lg2:=(HC.out _ q.wr.bel q.wr.base).1;have G3:=kid0 (HC.out _ q.wr.bel q.wr.base).2))
     go_roundg (fs.length - (0+1))
     case measure=>rw[HG.out];omega
     case rel=>exact⟨0+1,_,rfl,by go_num,hlt,(by show _=_;have:=HE2.out;simpa using this),q.pop⟩
   ·have hI:(0:Int)<(idx:Int):=by omega
    have st:pRest [44] (fs.map (kdAt hh w0)) idx=[44]::(KT++(pRest [44] (fs.map (kdAt hh w0)) (idx+1))):=by rw[pRest_succ h0 HX.out.2.2];exact congrArg (fun z=>[44]::(z++_)) HKT.out
    have HE:Hid (ts++([[44]]++(KT++pRest [44] (fs.map (kdAt hh w0)) (idx+1)))=([115,116,114,117,99,116]::(tl name::(X0++([[123]]))))++pSep [44] (fs.map (kdAt hh w0))):=by show _=_;rw[←HT.out,st];simp
    cases h2:(m2==1)
    ·have q:=((Q.out.as (rest':=[44]::([tl name2,[58]]++(T++(pRest [44] (fs.map (kdAt hh w0)) (idx+1)++[[125]])))) (by rw[st,hKT];simp[pWhen,h2])).box (nodeC kind2 pos2 n2 m2 name2 (.slice (some ⟨g3,0,none⟩) 1 kc2)))
     have HE2:Hid (ts++([[44]]++([tl name2,[58]])++(T)++pRest [44] (fs.map (kdAt hh w0)) (idx+1))=([115,116,114,117,99,116]::(tl name::(X0++([[123]]))))++pSep [44] (fs.map (kdAt hh w0))):=by show _=_;rw[←HE.out,hKT];simp[pWhen,h2]
     clear st hKT
     have F:=q.f1
     go_wp2_with (first
      |(go_at_call 76;refine q.go (fun a1 a2 a3=>HW.out a1 a2 a3) ?_;clear q F lg2 G3;intro w2 q;have F:=q.f1;have lg2:=(HC.out _ q.wr.bel q.wr.base).1;have G3:=kid0 (HC.out _ q.wr.bel q.wr.base).2)
      |(go_at_call 31;refine q.puts (ss:=[name2,⟨#[58]⟩]) (hg:=by first|rfl|simp) (ho:=rfl) (hX:=rfl) (hn:=rfl) (hl:=by decide) ?_;clear q F lg2 G3;intro w2 q;have F:=q.f1;have lg2:=(HC.out _ q.wr.bel q.wr.base).1;have G3:=kid0 (HC.out _ q.wr.bel q.wr.base).2)
      |(go_at_call 33;refine q.put ?_;clear q F lg2 G3;intro w2 q;have F:=q.f1;have lg2:=(HC.out _ q.wr.bel q.wr.base).1;have G3:=kid0 (HC.out _ q.wr.bel q.wr.base).2))
     go_roundg (fs.length - (idx+1))
     case measure=>rw[HG.out];omega
     case rel=>exact⟨idx+1,_,rfl,by go_num,hlt,(by show _=_;have:=HE2.out;simpa using this),q.pop⟩
    ·have q:=((Q.out.as (rest':=[44]::([112,117,98]::([tl name2,[58]]++(T++(pRest [44] (fs.map (kdAt hh w0)) (idx+1)++[[125]]))))) (by rw[st,hKT];simp[pWhen,h2])).box (nodeC kind2 pos2 n2 m2 name2 (.slice (some ⟨g3,0,none⟩) 1 kc2)))
     have HE2:Hid (ts++([[44]]++[[112,117,98]]++([tl name2,[58]])++(T)++pRest [44] (fs.map (kdAt hh w0)) (idx+1))=([115,116,114,117,99,116]::(tl name::(X0++([[123]]))))++pSep [44] (fs.map (kdAt hh w0))):=by show _=_;rw[←HE.out,hKT];simp[pWhen,h2]
     clear st hKT
     have F:=q.f1
     go_wp2_with (first
      |(go_at_call 76;refine q.go (fun a1 a2 a3=>HW.out a1 a2 a3) ?_;clear q F lg2 G3;intro w2 q;have F:=q.f1;have lg2:=(HC.out _ q.wr.bel q.wr.base).1;have G3:=kid0 (HC.out _ q.wr.bel q.wr.base).2)
      |(go_at_call 31;refine q.puts (ss:=[name2,⟨#[58]⟩]) (hg:=by first|rfl|simp) (ho:=rfl) (hX:=rfl) (hn:=rfl) (hl:=by decide) ?_;clear q F lg2 G3;intro w2 q;have F:=q.f1;have lg2:=(HC.out _ q.wr.bel q.wr.base).1;have G3:=kid0 (HC.out _ q.wr.bel q.wr.base).2)
      |(go_at_call 33;refine q.put ?_;clear q F lg2 G3;intro w2 q;have F:=q.f1;have lg2:=(HC.out _ q.wr.bel q.wr.base).1;have G3:=kid0 (HC.out _ q.wr.bel q.wr.base).2))
     go_roundg (fs.length - (idx+1))
     case measure=>rw[HG.out];omega
     case rel=>exact⟨idx+1,_,rfl,by go_num,hlt,(by show _=_;have:=HE2.out;simpa using this),q.pop⟩
  ·have hltI:¬(idx:Int)<(fs.length:Int):=by omega
   obtain rfl:idx=fs.length:=by omega
   have e:pRest [44] (fs.map (kdAt hh w0)) fs.length=[]:=by have:=pRest_end (s:=[44]) (ks:=(fs.map (kdAt hh w0)));rwa [List.length_map] at this
   have q:=Q.out.as (rest':=[[125]]) (by rw[e];rfl)
   have HE:Hid (ts=([115,116,114,117,99,116]::(tl name::(X0++([[123]]))))++pSep [44] (fs.map (kdAt hh w0))):=by show _=_;rw[←HT.out,e,List.append_nil]
   clear e
   have F:=q.f1
   go_wp2_with (go_at_call 33;refine q.put ?_;clear q F;intro w3 q;have F:=q.f1)
   go_end0
   exact q.done (by rw[HE.out];simp)
set_option maxRecDepth 100000 in
set_option maxHeartbeats 2000000 in
theorem e73_3s1 (hRs:∀g,g≤f→RN B w0 wb g) (ht:Tab B w0) (hn0:n=0) (hm2:2≤m) {F:List (List UInt8)} (hx:Nw B w0 (f+1) (nodeC 3 pos n m name (.slice ko kl kc)).toList) (hF:tok (f+1) w0 (nodeC 3 pos n m name (.slice ko kl kc)).toList=pWhen (m%2==1) [[112,117,98]]++F):Wc B w0 wb 73 (nodeC 3 pos n m name (.slice ko kl kc)) F:=by
 intro w bs h hne hf
 have hR:RN B w0 wb f:=@hRs f (Nat.le_refl f)
 have hcap:=hx.cap
 obtain⟨vs,hkl,hr,hg,htok,hs,hc⟩:=hx.opened
 rw[htok] at hF
 clear htok hx
 obtain rfl:n=0:=hn0
 have eks:vs.map labOf=[9,104]:=by
  rcases(hg.data rfl).2 with⟨-,h9⟩|⟨h9,-⟩
  ·exact h9
  ·omega
 obtain rfl:kl=2:=by
  have h9:=congrArg List.length eks
  simp at h9;omega
 have HRs:Hid (∀g,g≤f→RN B w0 wb g):=fun g hg=>@hRs g hg
 obtain⟨k0,p0,a0,b0,s0,o0,l0,c0,g,X0,Y0,Z0,e0,y0,z0,rfl,W0,WO0,WR0,C0⟩:=(kid_gw (fun g hg=>@hRs g hg) ht) hr hc (i:=0) (by omega) (fun x hx=>lab_nth (by rw[eks];rfl) hx)
 obtain⟨k1,p1,a1,b1,s1,o1,l1,c1,g1,hv1,hx1,eg1,C1⟩:=kid_open hr hc (i:=1) (by omega)
 obtain rfl:g=g1:=by simpa using eg1
 have hlb1:labOf (nodeC k1 p1 a1 b1 s1 (.slice o1 l1 c1)).toList=104:=lab_nth (i:=1) (by rw[eks];rfl) hv1
 obtain⟨hh,fs,hhle,hrf,hkf,hlf,hT1⟩:=var_open hx1 hlb1
 subst hlf
 have e1:kd (vs.map (kdAt f w0)) 1=⟨k1,fs.length,pRow [123] [125] (fs.map (kdAt hh w0))⟩:=by
  unfold kd
  rw[List.getElem?_map,hv1]
  show kdAt f w0 _=_
  unfold kdAt
  rw[hT1]
  rfl
 have hfew:=hrf.few
 have e:asm 3 0 m (name:ByteArray).data.toList (vs.map (kdAt f w0))=pWhen (m%2==1) [[112,117,98]]++([99,111,112,121]::([115,116,114,117,99,116]::(tl name::(X0++([123]::(pSep [44] (fs.map (kdAt hh w0))++[[125]])))))):=by
  show pWhen (m%2==1) [[112,117,98]]++pWhen (decide (2≤m)) [[99,111,112,121]]++([115,116,114,117,99,116]::tl name::pAll (vs.map (kdAt f w0)))=_
  rw[decide_eq_true hm2]
  have h9:(vs.map (kdAt f w0))=[kd (vs.map (kdAt f w0)) 0,kd (vs.map (kdAt f w0)) 1]:=by
   match vs,hkl with
   |[v0,v1],_=>rfl
  rw[h9,e0,e1]
  simp[pWhen,pAll,pRow]
 obtain rfl:F=[99,111,112,121]::([115,116,114,117,99,116]::(tl name::(X0++([123]::(pSep [44] (fs.map (kdAt hh w0))++[[125]]))))):=List.append_cancel_left (hF.symm.trans e)
 clear e hF
 have q:=(Sw.start h hne hf).box (nodeC 3 pos 0 m name (.slice (some ⟨g,0,none⟩) 2 kc))
 have HW0:Hid (Wc B w0 wb 75 (nodeC k0 p0 a0 b0 s0 (.slice o0 l0 c0)) X0):=W0
 have HC0:Hid (∀W,Below B w0 W→B≤W.heap.size→g<W.heap.size∧∀j,j<11→W.cell? ⟨g,0*11+j,none⟩=(nodeC k0 p0 a0 b0 s0 (.slice o0 l0 c0)).toList[j]?):=C0
 have HC1:Hid (∀W,Below B w0 W→B≤W.heap.size→g<W.heap.size∧∀j,j<11→W.cell? ⟨g,1*11+j,none⟩=(nodeC k1 p1 a1 b1 s1 (.slice o1 fs.length c1)).toList[j]?):=C1
 have HL:Hid (NR B w0 hh o1 fs∧(∀x∈fs,labOf x=105)∧fs.length=fs.length):=⟨hrf,hkf,rfl⟩
 have HRh:Hid (∀g,g≤hh→RN B w0 wb g):=fun g hg=>by have h9:=HRs.out;exact @h9 g (Nat.le_trans hg hhle)
 have G1:=kid1 (HC1.out _ q.wr.bel q.wr.base).2
 have hm2I:2≤m:=hm2
 clear e0 y0 z0 W0 WO0 WR0 C0
 clear h hne hf hr hg hc hkl hcap hRs eks hv1 hx1 eg1 C1 hlb1 hrf hkf hT1 e1 hhle hm2
 have F:=q.f1
 have lg:=(HC0.out _ q.wr.bel q.wr.base).1
 have G0:=kid0 (HC0.out _ q.wr.bel q.wr.base).2
 obtain⟨nb,hnb⟩:∃nb,nb=w.heap.size:=⟨_,rfl⟩
 go_enter Tryz.func73,Tryz.ntmps73
 go_wp2_with (first
  |(go_at_call 75;refine q.go (fun a1 a2 a3=>HW0.out a1 a2 a3) ?_;clear q F lg G0 G1;intro w2 q;have F:=q.f1;have lg:=(HC0.out _ q.wr.bel q.wr.base).1;have G0:=kid0 (HC0.out _ q.wr.bel q.wr.base).2;have G1:=kid1 (HC1.out _ q.wr.bel q.wr.base).2)
  |(go_at_call 33;refine q.put ?_;clear q F lg G0 G1;intro w2 q;have F:=q.f1;have lg:=(HC0.out _ q.wr.bel q.wr.base).1;have G0:=kid0 (HC0.out _ q.wr.bel q.wr.base).2;have G1:=kid1 (HC1.out _ q.wr.bel q.wr.base).2))
 rw[←hnb] at q F⊢
 clear hnb
 go_loopg [43] fs.length (fun gg u wr=>∃(idx:Nat) (ts:List (List UInt8)),gg=fs.length - idx∧u=.int .i64 idx∧idx≤fs.length∧Hid (ts++pRest [44] (fs.map (kdAt hh w0)) idx=([99,111,112,121]::([115,116,114,117,99,116]::(tl name::(X0++([[123]])))))++pSep [44] (fs.map (kdAt hh w0)))∧Hid (Sw B w0 w wb bs ts (pRest [44] (fs.map (kdAt hh w0)) idx++[[125]]) wr [(nb,(nodeC 3 pos 0 m name (.slice (some ⟨g,0,none⟩) 2 kc)))]))
 case atStart=>exact⟨0,_,rfl,rfl,Nat.zero_le _,(by show _=_;simp[pRest]),q⟩
 case round=>
  clear q F
  obtain⟨idx,ts,hgk,rfl,hidx,HT,Q⟩:=hrel
  have HG:Hid (gk=fs.length - idx):=hgk
  clear hgk
  by_cases hlt:idx<fs.length
  ·have hltI:(idx:Int)<(fs.length:Int):=by omega
   obtain⟨x,hx⟩:∃x,fs[idx]? =some x:=⟨_,List.getElem?_eq_getElem hlt⟩
   obtain⟨gx,ox,hax,hgB,hcell⟩:=HL.out.1.cell idx x hx
   have hmem:=List.mem_of_getElem? hx
   obtain⟨kind2,pos2,n2,m2,name2,ko2,kl2,kc2,rfl,-,-⟩:=(HL.out.1.all x hmem).fields
   have HX:Hid (Nw B w0 hh (nodeC kind2 pos2 n2 m2 name2 (.slice ko2 kl2 kc2)).toList∧labOf (nodeC kind2 pos2 n2 m2 name2 (.slice ko2 kl2 kc2)).toList=105∧(fs.map (kdAt hh w0))[idx]? =some (kdAt hh w0 (nodeC kind2 pos2 n2 m2 name2 (.slice ko2 kl2 kc2)).toList)):=⟨HL.out.1.all _ hmem,HL.out.2.1 _ hmem,by rw[List.getElem?_map,hx];rfl⟩
   have lift:∀j,j<11→wr.cell? ⟨gx,ox+idx*11+j,none⟩=(nodeC kind2 pos2 n2 m2 name2 (.slice ko2 kl2 kc2)).toList[j]? :=fun j hj=>(Q.out.wr.bel.cell (p:=⟨gx,ox+idx*11+j,none⟩) hgB).trans (hcell j hj)
   have lgx:gx<wr.heap.size:=Nat.lt_of_lt_of_le hgB Q.out.wr.base
   subst hax
   have e0:=lift 0 (by decide)
   have e1:=lift 1 (by decide)
   have e2:=lift 2 (by decide)
   have e3:=lift 3 (by decide)
   have e4:=lift 4 (by decide)
   have e5:=lift 5 (by decide)
   have e6:=lift 6 (by decide)
   have e7:=lift 7 (by decide)
   have e8:=lift 8 (by decide)
   have e9:=lift 9 (by decide)
   have e10:=lift 10 (by decide)
   simp only[Nat.add_zero,Nat.zero_add] at e0 e1 e2 e3 e4 e5 e6 e7 e8 e9 e10
   clear lift hcell hx hmem
   obtain⟨k3,p3,a3,b3,s3,o3,l3,c3,g3,T,hko,hkl2,HW',HC',hT⟩:=field_open HRh.out HX.out.1 HX.out.2.1
   subst hko hkl2
   have HW:Hid (Wc B w0 wb 76 (nodeC k3 p3 a3 b3 s3 (.slice o3 l3 c3)) T):=HW'
   have HC:Hid (∀W,Below B w0 W→B≤W.heap.size→g3<W.heap.size∧∀j,j<11→W.cell? ⟨g3,0*11+j,none⟩=(nodeC k3 p3 a3 b3 s3 (.slice o3 l3 c3)).toList[j]?):=HC'
   clear HW' HC'
   have lg2:=(HC.out _ Q.out.wr.bel Q.out.wr.base).1
   have G3:=kid0 (HC.out _ Q.out.wr.bel Q.out.wr.base).2
   obtain⟨KT,hKT⟩:∃KT,KT=pWhen (m2==1) [[112,117,98]]++(tl name2::[58]::T):=⟨_,rfl⟩
   have HKT:Hid (tok hh w0 (nodeC kind2 pos2 n2 m2 name2 (.slice (some ⟨g3,0,none⟩) 1 kc2)).toList=KT):=by show _=_;rw[hKT];exact hT
   clear hT
   rcases Nat.eq_zero_or_pos idx with h0|h0
   ·subst h0
    simp only[Nat.zero_mul,Nat.add_zero,Nat.zero_add] at e0 e1 e2 e3 e4 e5 e6 e7 e8 e9 e10
    have st:pRest [44] (fs.map (kdAt hh w0)) 0=KT++(pRest [44] (fs.map (kdAt hh w0)) (0+1)):=by rw[pRest_zero HX.out.2.2];exact congrArg (· ++_) HKT.out
    have HE:Hid (ts++([]++(KT++pRest [44] (fs.map (kdAt hh w0)) (0+1)))=([99,111,112,121]::([115,116,114,117,99,116]::(tl name::(X0++([[123]])))))++pSep [44] (fs.map (kdAt hh w0))):=by show _=_;rw[←HT.out,st];simp
    cases h2:(m2==1)
    ·have q:=((Q.out.as (rest':=[tl name2,[58]]++(T++(pRest [44] (fs.map (kdAt hh w0)) (0+1)++[[125]]))) (by rw[st,hKT];simp[pWhen,h2])).box (nodeC kind2 pos2 n2 m2 name2 (.slice (some ⟨g3,0,none⟩) 1 kc2)))
     have HE2:Hid (ts++(([tl name2,[58]])++(T)++pRest [44] (fs.map (kdAt hh w0)) (0+1))=([99,111,112,121]::([115,116,114,117,99,116]::(tl name::(X0++([[123]])))))++pSep [44] (fs.map (kdAt hh w0))):=by show _=_;rw[←HE.out,hKT];simp[pWhen,h2]
     clear st hKT
     have F:=q.f1
     go_wp2_with (first
      |(go_at_call 76;refine q.go (fun a1 a2 a3=>HW.out a1 a2 a3) ?_;clear q F lg2 G3;intro w2 q;have F:=q.f1;have lg2:=(HC.out _ q.wr.bel q.wr.base).1;have G3:=kid0 (HC.out _ q.wr.bel q.wr.base).2)
      |(go_at_call 31;refine q.puts (ss:=[name2,⟨#[58]⟩]) (hg:=by first|rfl|simp) (ho:=rfl) (hX:=rfl) (hn:=rfl) (hl:=by decide) ?_;clear q F lg2 G3;intro w2 q;have F:=q.f1;have lg2:=(HC.out _ q.wr.bel q.wr.base).1;have G3:=kid0 (HC.out _ q.wr.bel q.wr.base).2)
      |(go_at_call 33;refine q.put ?_;clear q F lg2 G3;intro w2 q;have F:=q.f1;have lg2:=(HC.out _ q.wr.bel q.wr.base).1;have G3:=kid0 (HC.out _ q.wr.bel q.wr.base).2))
     go_roundg (fs.length - (0+1))
     case measure=>rw[HG.out];omega
     case rel=>exact⟨0+1,_,rfl,by go_num,hlt,(by show _=_;have:=HE2.out;simpa using this),q.pop⟩
    ·have q:=((Q.out.as (rest':=[112,117,98]::([tl name2,[58]]++(T++(pRest [44] (fs.map (kdAt hh w0)) (0+1)++[[125]])))) (by rw[st,hKT];simp[pWhen,h2])).box (nodeC kind2 pos2 n2 m2 name2 (.slice (some ⟨g3,0,none⟩) 1 kc2)))
     have HE2:Hid (ts++([[112,117,98]]++([tl name2,[58]])++(T)++pRest [44] (fs.map (kdAt hh w0)) (0+1))=([99,111,112,121]::([115,116,114,117,99,116]::(tl name::(X0++([[123]])))))++pSep [44] (fs.map (kdAt hh w0))):=by show _=_;rw[←HE.out,hKT];simp[pWhen,h2]
     clear st hKT
     have F:=q.f1
     go_wp2_with (first
      |(go_at_call 76;refine q.go (fun a1 a2 a3=>HW.out a1 a2 a3) ?_;clear q F lg2 G3;intro w2 q;have F:=q.f1;have lg2:=(HC.out _ q.wr.bel q.wr.base).1;have G3:=kid0 (HC.out _ q.wr.bel q.wr.base).2)
      |(go_at_call 31;refine q.puts (ss:=[name2,⟨#[58]⟩]) (hg:=by first|rfl|simp) (ho:=rfl) (hX:=rfl) (hn:=rfl) (hl:=by decide) ?_;clear q F lg2 G3;intro w2 q;have F:=q.f1;have lg2:=(HC.out _ q.wr.bel q.wr.base).1;have G3:=kid0 (HC.out _ q.wr.bel q.wr.base).2)
      |(go_at_call 33;refine q.put ?_;clear q F lg2 G3;intro w2 q;have F:=q.f1;have lg2:=(HC.out _ q.wr.bel q.wr.base).1;have G3:=kid0 (HC.out _ q.wr.bel q.wr.base).2))
     go_roundg (fs.length - (0+1))
     case measure=>rw[HG.out];omega
     case rel=>exact⟨0+1,_,rfl,by go_num,hlt,(by show _=_;have:=HE2.out;simpa using this),q.pop⟩
   ·have hI:(0:Int)<(idx:Int):=by omega
    have st:pRest [44] (fs.map (kdAt hh w0)) idx=[44]::(KT++(pRest [44] (fs.map (kdAt hh w0)) (idx+1))):=by rw[pRest_succ h0 HX.out.2.2];exact congrArg (fun z=>[44]::(z++_)) HKT.out
    have HE:Hid (ts++([[44]]++(KT++pRest [44] (fs.map (kdAt hh w0)) (idx+1)))=([99,111,112,121]::([115,116,114,117,99,116]::(tl name::(X0++([[123]])))))++pSep [44] (fs.map (kdAt hh w0))):=by show _=_;rw[←HT.out,st];simp
    cases h2:(m2==1)
    ·have q:=((Q.out.as (rest':=[44]::([tl name2,[58]]++(T++(pRest [44] (fs.map (kdAt hh w0)) (idx+1)++[[125]])))) (by rw[st,hKT];simp[pWhen,h2])).box (nodeC kind2 pos2 n2 m2 name2 (.slice (some ⟨g3,0,none⟩) 1 kc2)))
     have HE2:Hid (ts++([[44]]++([tl name2,[58]])++(T)++pRest [44] (fs.map (kdAt hh w0)) (idx+1))=([99,111,112,121]::([115,116,114,117,99,116]::(tl name::(X0++([[123]])))))++pSep [44] (fs.map (kdAt hh w0))):=by show _=_;rw[←HE.out,hKT];simp[pWhen,h2]
     clear st hKT
     have F:=q.f1
     go_wp2_with (first
      |(go_at_call 76;refine q.go (fun a1 a2 a3=>HW.out a1 a2 a3) ?_;clear q F lg2 G3;intro w2 q;have F:=q.f1;have lg2:=(HC.out _ q.wr.bel q.wr.base).1;have G3:=kid0 (HC.out _ q.wr.bel q.wr.base).2)
      |(go_at_call 31;refine q.puts (ss:=[name2,⟨#[58]⟩]) (hg:=by first|rfl|simp) (ho:=rfl) (hX:=rfl) (hn:=rfl) (hl:=by decide) ?_;clear q F lg2 G3;intro w2 q;have F:=q.f1;have lg2:=(HC.out _ q.wr.bel q.wr.base).1;have G3:=kid0 (HC.out _ q.wr.bel q.wr.base).2)
      |(go_at_call 33;refine q.put ?_;clear q F lg2 G3;intro w2 q;have F:=q.f1;have lg2:=(HC.out _ q.wr.bel q.wr.base).1;have G3:=kid0 (HC.out _ q.wr.bel q.wr.base).2))
     go_roundg (fs.length - (idx+1))
     case measure=>rw[HG.out];omega
     case rel=>exact⟨idx+1,_,rfl,by go_num,hlt,(by show _=_;have:=HE2.out;simpa using this),q.pop⟩
    ·have q:=((Q.out.as (rest':=[44]::([112,117,98]::([tl name2,[58]]++(T++(pRest [44] (fs.map (kdAt hh w0)) (idx+1)++[[125]]))))) (by rw[st,hKT];simp[pWhen,h2])).box (nodeC kind2 pos2 n2 m2 name2 (.slice (some ⟨g3,0,none⟩) 1 kc2)))
     have HE2:Hid (ts++([[44]]++[[112,117,98]]++([tl name2,[58]])++(T)++pRest [44] (fs.map (kdAt hh w0)) (idx+1))=([99,111,112,121]::([115,116,114,117,99,116]::(tl name::(X0++([[123]])))))++pSep [44] (fs.map (kdAt hh w0))):=by show _=_;rw[←HE.out,hKT];simp[pWhen,h2]
     clear st hKT
     have F:=q.f1
     go_wp2_with (first
      |(go_at_call 76;refine q.go (fun a1 a2 a3=>HW.out a1 a2 a3) ?_;clear q F lg2 G3;intro w2 q;have F:=q.f1;have lg2:=(HC.out _ q.wr.bel q.wr.base).1;have G3:=kid0 (HC.out _ q.wr.bel q.wr.base).2)
      |(go_at_call 31;refine q.puts (ss:=[name2,⟨#[58]⟩]) (hg:=by first|rfl|simp) (ho:=rfl) (hX:=rfl) (hn:=rfl) (hl:=by decide) ?_;clear q F lg2 G3;intro w2 q;have F:=q.f1;have lg2:=(HC.out _ q.wr.bel q.wr.base).1;have G3:=kid0 (HC.out _ q.wr.bel q.wr.base).2)
      |(go_at_call 33;refine q.put ?_;clear q F lg2 G3;intro w2 q;have F:=q.f1;have lg2:=(HC.out _ q.wr.bel q.wr.base).1;have G3:=kid0 (HC.out _ q.wr.bel q.wr.base).2))
     go_roundg (fs.length - (idx+1))
     case measure=>rw[HG.out];omega
     case rel=>exact⟨idx+1,_,rfl,by go_num,hlt,(by show _=_;have:=HE2.out;simpa using this),q.pop⟩
  ·have hltI:¬(idx:Int)<(fs.length:Int):=by omega
   obtain rfl:idx=fs.length:=by omega
   have e:pRest [44] (fs.map (kdAt hh w0)) fs.length=[]:=by have:=pRest_end (s:=[44]) (ks:=(fs.map (kdAt hh w0)));rwa [List.length_map] at this
   have q:=Q.out.as (rest':=[[125]]) (by rw[e];rfl)
   have HE:Hid (ts=([99,111,112,121]::([115,116,114,117,99,116]::(tl name::(X0++([[123]])))))++pSep [44] (fs.map (kdAt hh w0))):=by show _=_;rw[←HT.out,e,List.append_nil]
   clear e
   have F:=q.f1
   go_wp2_with (go_at_call 33;refine q.put ?_;clear q F;intro w3 q;have F:=q.f1)
   go_end0
   exact q.done (by rw[HE.out];simp)
end
end Go.Proofs.YtagdihffmjopaaaGreatDoor
