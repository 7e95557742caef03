/- The document's writer: matches. -/
import Derived.Test.YtagdihffmjopaaaGreatDoorPte
namespace Go.Proofs.YtagdihffmjopaaaGreatDoor
set_option linter.all false
open Go.RowKit
section
variable{B:Nat} {w0 w:World} {wb f:Nat} {bs:List UInt8} {kind pos n m:Int} {name:ByteArray} {ko:Option Addr} {kl kc:Nat}
theorem two_open (hRs:∀g,g≤f→RN B w0 wb g) (hx:Nw B w0 f (nodeC kind pos n m name (.slice ko kl kc)).toList) (h1:∀ks,Gr kind n m name ks→∃x y,ks=[x,y]∧noK x∧noK y):∃(k p a b:Int) (s:ByteArray) (o:Option Addr) (l c:Nat) (k' p' a' b':Int) (s':ByteArray) (o':Option Addr) (l' c' g:Nat) (T T':List (List UInt8)),ko=some ⟨g,0,none⟩∧kl=2∧Wc B w0 wb 76 (nodeC k p a b s (.slice o l c)) T∧Wc B w0 wb 76 (nodeC k' p' a' b' s' (.slice o' l' c')) T'∧(∀W,Below B w0 W→B≤W.heap.size→g<W.heap.size∧∀j,j<11→W.cell? ⟨g,0*11+j,none⟩=(nodeC k p a b s (.slice o l c)).toList[j]?)∧(∀W,Below B w0 W→B≤W.heap.size→g<W.heap.size∧∀j,j<11→W.cell? ⟨g,1*11+j,none⟩=(nodeC k' p' a' b' s' (.slice o' l' c')).toList[j]?)∧tok f w0 (nodeC kind pos n m name (.slice ko kl kc)).toList=asm kind n m name.data.toList [⟨k,l,T⟩,⟨k',l',T'⟩]:=by
 cases f with
 |zero=>exact absurd hx (fun x=>x)
 |succ f=>
  obtain⟨vs,rfl,hr,hg,ht,-,hc⟩:=hx.opened
  obtain⟨x,x',e,hx2,hx3⟩:=h1 _ hg
  have hl:vs.length=2:=by have:=congrArg List.length e;simpa using this
  have hk:∀z∈vs,noK (labOf z):=fun z hz=>by
   have h9:labOf z∈vs.map labOf:=List.mem_map.2 ⟨z,hz,rfl⟩
   rw[e] at h9
   rcases List.mem_cons.1 h9 with h9|h9
   ·rw[h9];exact hx2
   ·rw[List.mem_singleton.1 h9];exact hx3
  obtain⟨k,p,a,b,s,o,l,c,g,X,-,-,e0,-,-,e1,W,-,-,C⟩:=kid_w (hRs f (Nat.le_succ f)) hr hc (i:=0) (by omega) (fun z hz=>hk z (List.mem_of_getElem? hz))
  obtain⟨k',p',a',b',s',o',l',c',g',X',-,-,e0',-,-,e1',W',-,-,C'⟩:=kid_w (hRs f (Nat.le_succ f)) hr hc (i:=1) (by omega) (fun z hz=>hk z (List.mem_of_getElem? hz))
  subst e1
  obtain rfl:g=g':=by simpa using e1'
  refine⟨k,p,a,b,s,o,l,c,k',p',a',b',s',o',l',c',g,X,X',rfl,hl,W,W',C,C',?_⟩
  rw[ht]
  match vs,hl with
  |[y,y'],_=>
   have e2:kdAt f w0 y=⟨k,l,X⟩:=by simpa[kd] using e0
   have e3:kdAt f w0 y'=⟨k',l',X'⟩:=by simpa[kd] using e0'
   simp[e2,e3]
theorem arm_open (hRs:∀g,g≤f→RN B w0 wb g) (hx:Nw B w0 f (nodeC kind pos n m name (.slice ko kl kc)).toList) (h1:labOf (nodeC kind pos n m name (.slice ko kl kc)).toList=35):∃(k p a b:Int) (s:ByteArray) (o:Option Addr) (l c:Nat) (k' p' a' b':Int) (s':ByteArray) (o':Option Addr) (l' c' g:Nat) (T T':List (List UInt8)),ko=some ⟨g,0,none⟩∧kl=2∧Wc B w0 wb 76 (nodeC k p a b s (.slice o l c)) T∧Wc B w0 wb 76 (nodeC k' p' a' b' s' (.slice o' l' c')) T'∧(∀W,Below B w0 W→B≤W.heap.size→g<W.heap.size∧∀j,j<11→W.cell? ⟨g,0*11+j,none⟩=(nodeC k p a b s (.slice o l c)).toList[j]?)∧(∀W,Below B w0 W→B≤W.heap.size→g<W.heap.size∧∀j,j<11→W.cell? ⟨g,1*11+j,none⟩=(nodeC k' p' a' b' s' (.slice o' l' c')).toList[j]?)∧tok f w0 (nodeC kind pos n m name (.slice ko kl kc)).toList=T++([61,62]::T'):=by
 obtain rfl:=lab_is h1 (by omega)
 obtain⟨k,p,a,b,s,o,l,c,k',p',a',b',s',o',l',c',g,T,T',h1,h2,h3,h4,h5,h6,h7⟩:=two_open hRs hx (fun ks hg=>hg.two (by decide))
 refine⟨k,p,a,b,s,o,l,c,k',p',a',b',s',o',l',c',g,T,T',h1,h2,h3,h4,h5,h6,?_⟩
 rw[h7]
 show pSep [61,62] [⟨k,l,T⟩,⟨k',l',T'⟩]=_
 simp[pSep,pMore]
set_option maxRecDepth 100000 in
set_option maxHeartbeats 2000000 in
theorem e117_34b (hRs:∀g,g≤f→RN B w0 wb g) (ht:Tab B w0) (hkc:kc≠1) (hx:Nw B w0 (f+1) (nodeC 34 pos n m name (.slice ko kl kc)).toList):Wc B w0 wb 117 (nodeC 34 pos n m name (.slice ko kl kc)) (tok (f+1) w0 (nodeC 34 pos n m name (.slice ko kl kc)).toList):=by
 intro w bs h hne hf
 have hR:RN B w0 wb f:=@hRs f (Nat.le_refl f)
 have hcap:=hx.cap
 obtain⟨vs,hkl,hr,hg,htok,hs,hc⟩:=hx.opened
 rw[htok] at hf⊢
 clear htok hx
 obtain⟨y1,zs,eks,nk1,hzs⟩:=hg.ematch rfl
 have:kl≠0:=by
  have:=congrArg List.length eks
  simp at this;omega
 obtain⟨l1,rfl⟩:∃l1,kl=l1+1:=⟨kl - 1,by omega⟩
 obtain⟨cz,rfl⟩:∃cz,kc=cz+1:=⟨kc - 1,by omega⟩
 obtain⟨k0,p0,a0,b0,s0,o0,l0,c0,g,X0,Y0,Z0,e0,y0,z0,rfl,W0,WO0,WR0,C0⟩:=kid_w hR hr hc (i:=0) (by omega) (fun x hx=>by rw[lab_nth (z:=y1) (by rw[eks];rfl) hx];exact nk1)
 obtain⟨us,hus⟩:∃us,us=vs.drop 1:=⟨_,rfl⟩
 have hul:us.length=l1:=by rw[hus,List.length_drop];omega
 have em:(vs.map (kdAt f w0)).drop 1=us.map (kdAt f w0):=by rw[hus,List.map_drop]
 have hb:=hr.few
 rw[hkl] at hb
 have e:asm 34 n m (name:ByteArray).data.toList (vs.map (kdAt f w0))=[109,97,116,99,104]::(Y0++([123]::(pSep [44] (us.map (kdAt f w0))++[[125]]))):=by
  show [109,97,116,99,104]::(pOp (kd (vs.map (kdAt f w0)) 0)++pRow [123] [125] ((vs.map (kdAt f w0)).drop 1))=_;rw[e0,y0,em];rfl
 rw[e] at hf⊢
 clear e
 have q:=(Sw.start h hne hf).box (nodeC 34 pos n m name (.slice (some ⟨g,0,none⟩) (l1+1) (cz+1)))
 have HWO0:Hid (Wc B w0 wb 115 (nodeC k0 p0 a0 b0 s0 (.slice o0 l0 c0)) Y0):=WO0
 have HC0:Hid (∀W,Below B w0 W→B≤W.heap.size→g<W.heap.size∧∀j,j<11→W.cell? ⟨g,0*11+j,none⟩=(nodeC k0 p0 a0 b0 s0 (.slice o0 l0 c0)).toList[j]?):=C0
 have HL:Hid (NR B w0 f (some ⟨g,11,none⟩) us∧(∀x∈us,labOf x=35)∧us.length=l1):=⟨by have:=hr.drop 1;rw[←hus] at this;simpa using this,fun x hx=>hzs _ (by have:=labs_drop (mm:=1) (cs:=[y1]) eks rfl;rw[←this,←hus];exact List.mem_map.2 ⟨x,hx,rfl⟩),hul⟩
 have HRs:Hid (∀g,g≤f→RN B w0 wb g):=fun g hg=>@hRs g hg
 have hbI:(l1:Int)+1≤20000:=by omega
 have hcI:(l1:Int)≤(cz:Int):=by omega
 have hcz:¬cz=0:=by omega
 subst hul
 clear e0 y0 z0 W0 WO0 WR0 C0
 clear h hne hf hr hg hc hkl hcap hRs hus em hb eks nk1 hzs
 have F:=q.f1
 have lg:=(HC0.out _ q.wr.bel q.wr.base).1
 have G0:=kid0 (HC0.out _ q.wr.bel q.wr.base).2
 obtain⟨nb,hnb⟩:∃nb,nb=w.heap.size:=⟨_,rfl⟩
 go_enter Tryz.func117,Tryz.ntmps117
 go_wp2_with (first
  |(go_at_call 33;refine q.put ?_;clear q F lg G0;intro w2 q;have F:=q.f1;have lg:=(HC0.out _ q.wr.bel q.wr.base).1;have G0:=kid0 (HC0.out _ q.wr.bel q.wr.base).2)
  |(go_at_call 115;refine q.go (fun a1 a2 a3=>HWO0.out a1 a2 a3) ?_;clear q F lg G0;intro w2 q;have F:=q.f1;have lg:=(HC0.out _ q.wr.bel q.wr.base).1;have G0:=kid0 (HC0.out _ q.wr.bel q.wr.base).2))
 rw[←hnb] at q F⊢
 clear hnb
 go_loopg [52] us.length (fun gg u wr=>∃(idx:Nat) (ts:List (List UInt8)),gg=us.length - idx∧u=.int .i64 idx∧idx≤us.length∧Hid (ts++pRest [44] (us.map (kdAt f w0)) idx=([109,97,116,99,104]::(Y0++[[123]]))++pSep [44] (us.map (kdAt f w0)))∧Hid (Sw B w0 w wb bs ts (pRest [44] (us.map (kdAt f w0)) idx++[[125]]) wr [(nb,(nodeC 34 pos n m name (.slice (some ⟨g,0,none⟩) (us.length+1) (cz+1))))]))
 case atStart=>exact⟨0,_,rfl,rfl,Nat.zero_le _,(by show _=_;simp[pRest]),q⟩
 case round=>
  clear q F
  obtain⟨idx,ts,hgk,rfl,hidx,HT,Q⟩:=hrel
  have HG:Hid (gk=us.length - idx):=hgk
  clear hgk
  have F:=Q.out.f1
  by_cases hlt:idx<us.length
  ·have hltI:(idx:Int)<(us.length:Int):=by omega
   obtain⟨x,hx⟩:∃x,us[idx]? =some x:=⟨_,List.getElem?_eq_getElem hlt⟩
   obtain⟨gx,ox,hax,hgB,hcell⟩:=HL.out.1.cell idx x hx
   have hmem:=List.mem_of_getElem? hx
   obtain⟨kind2,pos2,n2,m2,name2,ko2,kl2,kc2,rfl,-,-⟩:=(HL.out.1.all x hmem).fields
   have HX:Hid (Nw B w0 f (nodeC kind2 pos2 n2 m2 name2 (.slice ko2 kl2 kc2)).toList∧labOf (nodeC kind2 pos2 n2 m2 name2 (.slice ko2 kl2 kc2)).toList=35∧(us.map (kdAt f w0))[idx]? =some (kdAt f w0 (nodeC kind2 pos2 n2 m2 name2 (.slice ko2 kl2 kc2)).toList)):=⟨HL.out.1.all _ hmem,HL.out.2.1 _ hmem,by rw[List.getElem?_map,hx];rfl⟩
   have lift:∀j,j<11→wr.cell? ⟨gx,ox+idx*11+j,none⟩=(nodeC kind2 pos2 n2 m2 name2 (.slice ko2 kl2 kc2)).toList[j]? :=fun j hj=>(Q.out.wr.bel.cell (p:=⟨gx,ox+idx*11+j,none⟩) hgB).trans (hcell j hj)
   have lgx:gx<wr.heap.size:=Nat.lt_of_lt_of_le hgB Q.out.wr.base
   obtain⟨rfl,rfl⟩:g=gx∧11=ox:=by simpa using hax
   have e0:=lift 0 (by decide)
   have e1:=lift 1 (by decide)
   have e2:=lift 2 (by decide)
   have e3:=lift 3 (by decide)
   have e4:=lift 4 (by decide)
   have e5:=lift 5 (by decide)
   have e6:=lift 6 (by decide)
   have e7:=lift 7 (by decide)
   have e8:=lift 8 (by decide)
   have e9:=lift 9 (by decide)
   have e10:=lift 10 (by decide)
   simp only[Nat.add_zero,Nat.zero_add] at e0 e1 e2 e3 e4 e5 e6 e7 e8 e9 e10
   clear lift hcell hx hmem
   obtain⟨k3,p3,a3,b3,s3,o3,l3,c3,k4,p4,a4,b4,s4,o4,l4,c4,g3,T,T',hko,hkl2,HW',HW4',HC',HC4',hT⟩:=arm_open HRs.out HX.out.1 HX.out.2.1
   subst hko hkl2
   have HW:Hid (Wc B w0 wb 76 (nodeC k3 p3 a3 b3 s3 (.slice o3 l3 c3)) T):=HW'
   have HW4:Hid (Wc B w0 wb 76 (nodeC k4 p4 a4 b4 s4 (.slice o4 l4 c4)) T'):=HW4'
   have HC:Hid (∀W,Below B w0 W→B≤W.heap.size→g3<W.heap.size∧∀j,j<11→W.cell? ⟨g3,0*11+j,none⟩=(nodeC k3 p3 a3 b3 s3 (.slice o3 l3 c3)).toList[j]?):=HC'
   have HC4:Hid (∀W,Below B w0 W→B≤W.heap.size→g3<W.heap.size∧∀j,j<11→W.cell? ⟨g3,1*11+j,none⟩=(nodeC k4 p4 a4 b4 s4 (.slice o4 l4 c4)).toList[j]?):=HC4'
   clear HW' HC' HW4' HC4'
   have lg2:=(HC.out _ Q.out.wr.bel Q.out.wr.base).1
   have G3:=kid0 (HC.out _ Q.out.wr.bel Q.out.wr.base).2
   have G4:=kid1 (HC4.out _ Q.out.wr.bel Q.out.wr.base).2
   obtain⟨KT,hKT⟩:∃KT,KT=T++([61,62]::T'):=⟨_,rfl⟩
   have HKT:Hid (tok f w0 (nodeC kind2 pos2 n2 m2 name2 (.slice (some ⟨g3,0,none⟩) 2 kc2)).toList=KT):=by show _=_;rw[hKT];exact hT
   clear hT
   rcases Nat.eq_zero_or_pos idx with h0|h0
   ·subst h0
    simp only[Nat.zero_mul,Nat.add_zero,Nat.zero_add] at e0 e1 e2 e3 e4 e5 e6 e7 e8 e9 e10
    have st:pRest [44] (us.map (kdAt f w0)) 0=KT++pRest [44] (us.map (kdAt f w0)) (0+1):=by rw[pRest_zero HX.out.2.2];exact congrArg (· ++_) HKT.out
    have HE:Hid (ts++(KT++pRest [44] (us.map (kdAt f w0)) (0+1))=([109,97,116,99,104]::(Y0++[[123]]))++pSep [44] (us.map (kdAt f w0))):=by show _=_;rw[←HT.out,st]
    have q:=((Q.out.as (rest':=T++([61,62]::(T'++(pRest [44] (us.map (kdAt f w0)) (0+1)++[[125]])))) (by rw[st,hKT];simp)).box (nodeC kind2 pos2 n2 m2 name2 (.slice (some ⟨g3,0,none⟩) 2 kc2)))
    have HE2:Hid (ts++((T)++[[61,62]]++(T')++pRest [44] (us.map (kdAt f w0)) (0+1))=([109,97,116,99,104]::(Y0++[[123]]))++pSep [44] (us.map (kdAt f w0))):=by show _=_;rw[←HE.out,hKT];simp
    clear st hKT F
    have F:=q.f2
    go_wp2_with (first
     |(go_at_call 76;refine q.go (fun a1 a2 a3=>HW4.out a1 a2 a3) ?_;clear q F lg2 G3 G4;intro w2 q;have F:=q.f2;have lg2:=(HC.out _ q.wr.bel q.wr.base).1;have G3:=kid0 (HC.out _ q.wr.bel q.wr.base).2;have G4:=kid1 (HC4.out _ q.wr.bel q.wr.base).2)
     |(go_at_call 76;refine q.go (fun a1 a2 a3=>HW.out a1 a2 a3) ?_;clear q F lg2 G3 G4;intro w2 q;have F:=q.f2;have lg2:=(HC.out _ q.wr.bel q.wr.base).1;have G3:=kid0 (HC.out _ q.wr.bel q.wr.base).2;have G4:=kid1 (HC4.out _ q.wr.bel q.wr.base).2)
     |(go_at_call 33;refine q.put ?_;clear q F lg2 G3 G4;intro w2 q;have F:=q.f2;have lg2:=(HC.out _ q.wr.bel q.wr.base).1;have G3:=kid0 (HC.out _ q.wr.bel q.wr.base).2;have G4:=kid1 (HC4.out _ q.wr.bel q.wr.base).2))
    go_roundg (us.length - (0+1))
    case measure=>rw[HG.out];omega
    case rel=>exact⟨0+1,_,rfl,by go_num,hlt,(by show _=_;have:=HE2.out;simpa using this),q.pop⟩
   ·have hI:(0:Int)<(idx:Int):=by omega
    have st:pRest [44] (us.map (kdAt f w0)) idx=[44]::(KT++pRest [44] (us.map (kdAt f w0)) (idx+1)):=by rw[pRest_succ h0 HX.out.2.2];exact congrArg (fun z=>[44]::(z++_)) HKT.out
    have HE:Hid (ts++[[44]]++(KT++pRest [44] (us.map (kdAt f w0)) (idx+1))=([109,97,116,99,104]::(Y0++[[123]]))++pSep [44] (us.map (kdAt f w0))):=by show _=_;rw[←HT.out,st];simp
    have q:=((Q.out.as (rest':=[44]::(T++([61,62]::(T'++(pRest [44] (us.map (kdAt f w0)) (idx+1)++[[125]]))))) (by rw[st,hKT];simp)).box (nodeC kind2 pos2 n2 m2 name2 (.slice (some ⟨g3,0,none⟩) 2 kc2)))
    have HE2:Hid (ts++([[44]]++(T)++[[61,62]]++(T')++pRest [44] (us.map (kdAt f w0)) (idx+1))=([109,97,116,99,104]::(Y0++[[123]]))++pSep [44] (us.map (kdAt f w0))):=by show _=_;rw[←HE.out,hKT];simp
    clear st hKT F
    have F:=q.f2
    go_wp2_with (first
     |(go_at_call 76;refine q.go (fun a1 a2 a3=>HW4.out a1 a2 a3) ?_;clear q F lg2 G3 G4;intro w2 q;have F:=q.f2;have lg2:=(HC.out _ q.wr.bel q.wr.base).1;have G3:=kid0 (HC.out _ q.wr.bel q.wr.base).2;have G4:=kid1 (HC4.out _ q.wr.bel q.wr.base).2)
     |(go_at_call 76;refine q.go (fun a1 a2 a3=>HW.out a1 a2 a3) ?_;clear q F lg2 G3 G4;intro w2 q;have F:=q.f2;have lg2:=(HC.out _ q.wr.bel q.wr.base).1;have G3:=kid0 (HC.out _ q.wr.bel q.wr.base).2;have G4:=kid1 (HC4.out _ q.wr.bel q.wr.base).2)
     |(go_at_call 33;refine q.put ?_;clear q F lg2 G3 G4;intro w2 q;have F:=q.f2;have lg2:=(HC.out _ q.wr.bel q.wr.base).1;have G3:=kid0 (HC.out _ q.wr.bel q.wr.base).2;have G4:=kid1 (HC4.out _ q.wr.bel q.wr.base).2))
    go_roundg (us.length - (idx+1))
    case measure=>rw[HG.out];omega
    case rel=>exact⟨idx+1,_,rfl,by go_num,hlt,(by show _=_;have:=HE2.out;simpa using this),q.pop⟩
  ·have hltI:¬(idx:Int)<(us.length:Int):=by omega
   obtain rfl:idx=us.length:=by omega
   have e:pRest [44] (us.map (kdAt f w0)) us.length=[]:=by have:=pRest_end (s:=[44]) (ks:=(us.map (kdAt f w0)));rwa [List.length_map] at this
   have q:=Q.out.as (rest':=[[125]]) (by rw[e];rfl)
   have HE:Hid (ts=([109,97,116,99,104]::(Y0++[[123]]))++pSep [44] (us.map (kdAt f w0))):=by show _=_;rw[←HT.out,e,List.append_nil]
   clear e
   clear F
   have F:=q.f1
   go_wp2_with (go_at_call 33;refine q.put ?_;clear q F;intro w3 q;have F:=q.f1)
   go_end0
   exact q.done (by rw[HE.out];simp)
set_option maxRecDepth 100000 in
set_option maxHeartbeats 2000000 in
theorem e117_34a (hRs:∀g,g≤f→RN B w0 wb g) (ht:Tab B w0) (hkc:kc=1) (hx:Nw B w0 (f+1) (nodeC 34 pos n m name (.slice ko kl kc)).toList):Wc B w0 wb 117 (nodeC 34 pos n m name (.slice ko kl kc)) (tok (f+1) w0 (nodeC 34 pos n m name (.slice ko kl kc)).toList):=by
 intro w bs h hne hf
 have hR:RN B w0 wb f:=@hRs f (Nat.le_refl f)
 have hcap:=hx.cap
 obtain⟨vs,hkl,hr,hg,htok,hs,hc⟩:=hx.opened
 rw[htok] at hf⊢
 clear htok hx
 obtain⟨y1,zs,eks,nk1,hzs⟩:=hg.ematch rfl
 have:kl≠0:=by
  have:=congrArg List.length eks
  simp at this;omega
 obtain⟨l1,rfl⟩:∃l1,kl=l1+1:=⟨kl - 1,by omega⟩
 obtain⟨cz,rfl⟩:∃cz,kc=cz+1:=⟨kc - 1,by omega⟩
 obtain rfl:cz=0:=by omega
 obtain⟨k0,p0,a0,b0,s0,o0,l0,c0,g,X0,Y0,Z0,e0,y0,z0,rfl,W0,WO0,WR0,C0⟩:=kid_w hR hr hc (i:=0) (by omega) (fun x hx=>by rw[lab_nth (z:=y1) (by rw[eks];rfl) hx];exact nk1)
 obtain⟨us,hus⟩:∃us,us=vs.drop 1:=⟨_,rfl⟩
 have hul:us.length=l1:=by rw[hus,List.length_drop];omega
 have em:(vs.map (kdAt f w0)).drop 1=us.map (kdAt f w0):=by rw[hus,List.map_drop]
 have hb:=hr.few
 rw[hkl] at hb
 have e:asm 34 n m (name:ByteArray).data.toList (vs.map (kdAt f w0))=[109,97,116,99,104]::(Y0++([123]::(pSep [44] (us.map (kdAt f w0))++[[125]]))):=by
  show [109,97,116,99,104]::(pOp (kd (vs.map (kdAt f w0)) 0)++pRow [123] [125] ((vs.map (kdAt f w0)).drop 1))=_;rw[e0,y0,em];rfl
 rw[e] at hf⊢
 clear e
 have q:=(Sw.start h hne hf).box (nodeC 34 pos n m name (.slice (some ⟨g,0,none⟩) (l1+1) (0+1)))
 have HWO0:Hid (Wc B w0 wb 115 (nodeC k0 p0 a0 b0 s0 (.slice o0 l0 c0)) Y0):=WO0
 have HC0:Hid (∀W,Below B w0 W→B≤W.heap.size→g<W.heap.size∧∀j,j<11→W.cell? ⟨g,0*11+j,none⟩=(nodeC k0 p0 a0 b0 s0 (.slice o0 l0 c0)).toList[j]?):=C0
 have HL:Hid (NR B w0 f (some ⟨g,0,none⟩) us∧(∀x∈us,labOf x=35)∧us.length=l1):=⟨by obtain rfl:us=[]:=List.eq_nil_of_length_eq_zero (by omega);exact NR.nil,fun x hx=>hzs _ (by have:=labs_drop (mm:=1) (cs:=[y1]) eks rfl;rw[←this,←hus];exact List.mem_map.2 ⟨x,hx,rfl⟩),hul⟩
 have HRs:Hid (∀g,g≤f→RN B w0 wb g):=fun g hg=>@hRs g hg
 have hbI:(l1:Int)+1≤20000:=by omega
 subst hul
 clear e0 y0 z0 W0 WO0 WR0 C0
 clear h hne hf hr hg hc hkl hcap hRs hus em hb eks nk1 hzs
 have F:=q.f1
 have lg:=(HC0.out _ q.wr.bel q.wr.base).1
 have G0:=kid0 (HC0.out _ q.wr.bel q.wr.base).2
 obtain⟨nb,hnb⟩:∃nb,nb=w.heap.size:=⟨_,rfl⟩
 go_enter Tryz.func117,Tryz.ntmps117
 go_wp2_with (first
  |(go_at_call 33;refine q.put ?_;clear q F lg G0;intro w2 q;have F:=q.f1;have lg:=(HC0.out _ q.wr.bel q.wr.base).1;have G0:=kid0 (HC0.out _ q.wr.bel q.wr.base).2)
  |(go_at_call 115;refine q.go (fun a1 a2 a3=>HWO0.out a1 a2 a3) ?_;clear q F lg G0;intro w2 q;have F:=q.f1;have lg:=(HC0.out _ q.wr.bel q.wr.base).1;have G0:=kid0 (HC0.out _ q.wr.bel q.wr.base).2))
 rw[←hnb] at q F⊢
 clear hnb
 go_loopg [52] us.length (fun gg u wr=>∃(idx:Nat) (ts:List (List UInt8)),gg=us.length - idx∧u=.int .i64 idx∧idx≤us.length∧Hid (ts++pRest [44] (us.map (kdAt f w0)) idx=([109,97,116,99,104]::(Y0++[[123]]))++pSep [44] (us.map (kdAt f w0)))∧Hid (Sw B w0 w wb bs ts (pRest [44] (us.map (kdAt f w0)) idx++[[125]]) wr [(nb,(nodeC 34 pos n m name (.slice (some ⟨g,0,none⟩) (us.length+1) (0+1))))]))
 case atStart=>exact⟨0,_,rfl,rfl,Nat.zero_le _,(by show _=_;simp[pRest]),q⟩
 case round=>
  clear q F
  obtain⟨idx,ts,hgk,rfl,hidx,HT,Q⟩:=hrel
  have HG:Hid (gk=us.length - idx):=hgk
  clear hgk
  have F:=Q.out.f1
  by_cases hlt:idx<us.length
  ·have hltI:(idx:Int)<(us.length:Int):=by omega
   obtain⟨x,hx⟩:∃x,us[idx]? =some x:=⟨_,List.getElem?_eq_getElem hlt⟩
   obtain⟨gx,ox,hax,hgB,hcell⟩:=HL.out.1.cell idx x hx
   have hmem:=List.mem_of_getElem? hx
   obtain⟨kind2,pos2,n2,m2,name2,ko2,kl2,kc2,rfl,-,-⟩:=(HL.out.1.all x hmem).fields
   have HX:Hid (Nw B w0 f (nodeC kind2 pos2 n2 m2 name2 (.slice ko2 kl2 kc2)).toList∧labOf (nodeC kind2 pos2 n2 m2 name2 (.slice ko2 kl2 kc2)).toList=35∧(us.map (kdAt f w0))[idx]? =some (kdAt f w0 (nodeC kind2 pos2 n2 m2 name2 (.slice ko2 kl2 kc2)).toList)):=⟨HL.out.1.all _ hmem,HL.out.2.1 _ hmem,by rw[List.getElem?_map,hx];rfl⟩
   have lift:∀j,j<11→wr.cell? ⟨gx,ox+idx*11+j,none⟩=(nodeC kind2 pos2 n2 m2 name2 (.slice ko2 kl2 kc2)).toList[j]? :=fun j hj=>(Q.out.wr.bel.cell (p:=⟨gx,ox+idx*11+j,none⟩) hgB).trans (hcell j hj)
   have lgx:gx<wr.heap.size:=Nat.lt_of_lt_of_le hgB Q.out.wr.base
   obtain⟨rfl,rfl⟩:g=gx∧0=ox:=by simpa using hax
   have e0:=lift 0 (by decide)
   have e1:=lift 1 (by decide)
   have e2:=lift 2 (by decide)
   have e3:=lift 3 (by decide)
   have e4:=lift 4 (by decide)
   have e5:=lift 5 (by decide)
   have e6:=lift 6 (by decide)
   have e7:=lift 7 (by decide)
   have e8:=lift 8 (by decide)
   have e9:=lift 9 (by decide)
   have e10:=lift 10 (by decide)
   simp only[Nat.add_zero,Nat.zero_add] at e0 e1 e2 e3 e4 e5 e6 e7 e8 e9 e10
   clear lift hcell hx hmem
   obtain⟨k3,p3,a3,b3,s3,o3,l3,c3,k4,p4,a4,b4,s4,o4,l4,c4,g3,T,T',hko,hkl2,HW',HW4',HC',HC4',hT⟩:=arm_open HRs.out HX.out.1 HX.out.2.1
   subst hko hkl2
   have HW:Hid (Wc B w0 wb 76 (nodeC k3 p3 a3 b3 s3 (.slice o3 l3 c3)) T):=HW'
   have HW4:Hid (Wc B w0 wb 76 (nodeC k4 p4 a4 b4 s4 (.slice o4 l4 c4)) T'):=HW4'
   have HC:Hid (∀W,Below B w0 W→B≤W.heap.size→g3<W.heap.size∧∀j,j<11→W.cell? ⟨g3,0*11+j,none⟩=(nodeC k3 p3 a3 b3 s3 (.slice o3 l3 c3)).toList[j]?):=HC'
   have HC4:Hid (∀W,Below B w0 W→B≤W.heap.size→g3<W.heap.size∧∀j,j<11→W.cell? ⟨g3,1*11+j,none⟩=(nodeC k4 p4 a4 b4 s4 (.slice o4 l4 c4)).toList[j]?):=HC4'
   clear HW' HC' HW4' HC4'
   have lg2:=(HC.out _ Q.out.wr.bel Q.out.wr.base).1
   have G3:=kid0 (HC.out _ Q.out.wr.bel Q.out.wr.base).2
   have G4:=kid1 (HC4.out _ Q.out.wr.bel Q.out.wr.base).2
   obtain⟨KT,hKT⟩:∃KT,KT=T++([61,62]::T'):=⟨_,rfl⟩
   have HKT:Hid (tok f w0 (nodeC kind2 pos2 n2 m2 name2 (.slice (some ⟨g3,0,none⟩) 2 kc2)).toList=KT):=by show _=_;rw[hKT];exact hT
   clear hT
   rcases Nat.eq_zero_or_pos idx with h0|h0
   ·subst h0
    simp only[Nat.zero_mul,Nat.add_zero,Nat.zero_add] at e0 e1 e2 e3 e4 e5 e6 e7 e8 e9 e10
    have st:pRest [44] (us.map (kdAt f w0)) 0=KT++pRest [44] (us.map (kdAt f w0)) (0+1):=by rw[pRest_zero HX.out.2.2];exact congrArg (· ++_) HKT.out
    have HE:Hid (ts++(KT++pRest [44] (us.map (kdAt f w0)) (0+1))=([109,97,116,99,104]::(Y0++[[123]]))++pSep [44] (us.map (kdAt f w0))):=by show _=_;rw[←HT.out,st]
    have q:=((Q.out.as (rest':=T++([61,62]::(T'++(pRest [44] (us.map (kdAt f w0)) (0+1)++[[125]])))) (by rw[st,hKT];simp)).box (nodeC kind2 pos2 n2 m2 name2 (.slice (some ⟨g3,0,none⟩) 2 kc2)))
    have HE2:Hid (ts++((T)++[[61,62]]++(T')++pRest [44] (us.map (kdAt f w0)) (0+1))=([109,97,116,99,104]::(Y0++[[123]]))++pSep [44] (us.map (kdAt f w0))):=by show _=_;rw[←HE.out,hKT];simp
    clear st hKT F
    have F:=q.f2
    go_wp2_with (first
     |(go_at_call 76;refine q.go (fun a1 a2 a3=>HW4.out a1 a2 a3) ?_;clear q F lg2 G3 G4;intro w2 q;have F:=q.f2;have lg2:=(HC.out _ q.wr.bel q.wr.base).1;have G3:=kid0 (HC.out _ q.wr.bel q.wr.base).2;have G4:=kid1 (HC4.out _ q.wr.bel q.wr.base).2)
     |(go_at_call 76;refine q.go (fun a1 a2 a3=>HW.out a1 a2 a3) ?_;clear q F lg2 G3 G4;intro w2 q;have F:=q.f2;have lg2:=(HC.out _ q.wr.bel q.wr.base).1;have G3:=kid0 (HC.out _ q.wr.bel q.wr.base).2;have G4:=kid1 (HC4.out _ q.wr.bel q.wr.base).2)
     |(go_at_call 33;refine q.put ?_;clear q F lg2 G3 G4;intro w2 q;have F:=q.f2;have lg2:=(HC.out _ q.wr.bel q.wr.base).1;have G3:=kid0 (HC.out _ q.wr.bel q.wr.base).2;have G4:=kid1 (HC4.out _ q.wr.bel q.wr.base).2))
    go_roundg (us.length - (0+1))
    case measure=>rw[HG.out];omega
    case rel=>exact⟨0+1,_,rfl,by go_num,hlt,(by show _=_;have:=HE2.out;simpa using this),q.pop⟩
   ·have hI:(0:Int)<(idx:Int):=by omega
    have st:pRest [44] (us.map (kdAt f w0)) idx=[44]::(KT++pRest [44] (us.map (kdAt f w0)) (idx+1)):=by rw[pRest_succ h0 HX.out.2.2];exact congrArg (fun z=>[44]::(z++_)) HKT.out
    have HE:Hid (ts++[[44]]++(KT++pRest [44] (us.map (kdAt f w0)) (idx+1))=([109,97,116,99,104]::(Y0++[[123]]))++pSep [44] (us.map (kdAt f w0))):=by show _=_;rw[←HT.out,st];simp
    have q:=((Q.out.as (rest':=[44]::(T++([61,62]::(T'++(pRest [44] (us.map (kdAt f w0)) (idx+1)++[[125]]))))) (by rw[st,hKT];simp)).box (nodeC kind2 pos2 n2 m2 name2 (.slice (some ⟨g3,0,none⟩) 2 kc2)))
    have HE2:Hid (ts++([[44]]++(T)++[[61,62]]++(T')++pRest [44] (us.map (kdAt f w0)) (idx+1))=([109,97,116,99,104]::(Y0++[[123]]))++pSep [44] (us.map (kdAt f w0))):=by show _=_;rw[←HE.out,hKT];simp
    clear st hKT F
    have F:=q.f2
    go_wp2_with (first
     |(go_at_call 76;refine q.go (fun a1 a2 a3=>HW4.out a1 a2 a3) ?_;clear q F lg2 G3 G4;intro w2 q;have F:=q.f2;have lg2:=(HC.out _ q.wr.bel q.wr.base).1;have G3:=kid0 (HC.out _ q.wr.bel q.wr.base).2;have G4:=kid1 (HC4.out _ q.wr.bel q.wr.base).2)
     |(go_at_call 76;refine q.go (fun a1 a2 a3=>HW.out a1 a2 a3) ?_;clear q F lg2 G3 G4;intro w2 q;have F:=q.f2;have lg2:=(HC.out _ q.wr.bel q.wr.base).1;have G3:=kid0 (HC.out _ q.wr.bel q.wr.base).2;have G4:=kid1 (HC4.out _ q.wr.bel q.wr.base).2)
     |(go_at_call 33;refine q.put ?_;clear q F lg2 G3 G4;intro w2 q;have F:=q.f2;have lg2:=(HC.out _ q.wr.bel q.wr.base).1;have G3:=kid0 (HC.out _ q.wr.bel q.wr.base).2;have G4:=kid1 (HC4.out _ q.wr.bel q.wr.base).2))
    go_roundg (us.length - (idx+1))
    case measure=>rw[HG.out];omega
    case rel=>exact⟨idx+1,_,rfl,by go_num,hlt,(by show _=_;have:=HE2.out;simpa using this),q.pop⟩
  ·have hltI:¬(idx:Int)<(us.length:Int):=by omega
   obtain rfl:idx=us.length:=by omega
   have e:pRest [44] (us.map (kdAt f w0)) us.length=[]:=by have:=pRest_end (s:=[44]) (ks:=(us.map (kdAt f w0)));rwa [List.length_map] at this
   have q:=Q.out.as (rest':=[[125]]) (by rw[e];rfl)
   have HE:Hid (ts=([109,97,116,99,104]::(Y0++[[123]]))++pSep [44] (us.map (kdAt f w0))):=by show _=_;rw[←HT.out,e,List.append_nil]
   clear e
   clear F
   have F:=q.f1
   go_wp2_with (go_at_call 33;refine q.put ?_;clear q F;intro w3 q;have F:=q.f1)
   go_end0
   exact q.done (by rw[HE.out];simp)
end
end Go.Proofs.YtagdihffmjopaaaGreatDoor
