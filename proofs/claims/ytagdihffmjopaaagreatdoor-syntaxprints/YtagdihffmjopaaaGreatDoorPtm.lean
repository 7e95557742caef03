/- The document's writer: enums without variants' room. -/
import Derived.Test.YtagdihffmjopaaaGreatDoorPtk
namespace Go.Proofs.YtagdihffmjopaaaGreatDoor
set_option linter.all false
open Go.RowKit
section
variable{B:Nat} {w0 w:World} {wb f:Nat} {bs:List UInt8} {kind pos n m:Int} {name:ByteArray} {ko:Option Addr} {kl kc:Nat}
set_option maxRecDepth 100000 in
set_option maxHeartbeats 2000000 in
theorem e73_3e01 (hRs:∀g,g≤f→RN B w0 wb g) (ht:Tab B w0) (hn0:n=1) (hm2:¬2≤m) (hkc:kc=1) {F:List (List UInt8)} (hx:Nw B w0 (f+1) (nodeC 3 pos n m name (.slice ko kl kc)).toList) (hF:tok (f+1) w0 (nodeC 3 pos n m name (.slice ko kl kc)).toList=pWhen (m%2==1) [[112,117,98]]++F):Wc B w0 wb 73 (nodeC 3 pos n m name (.slice ko kl kc)) F:=by
 intro w bs h hne hf
 have hR:RN B w0 wb f:=@hRs f (Nat.le_refl f)
 have hcap:=hx.cap
 obtain⟨vs,hkl,hr,hg,htok,hs,hc⟩:=hx.opened
 rw[htok] at hF
 clear htok hx
 obtain rfl:n=1:=hn0
 obtain⟨zs,eks,hzs⟩:∃zs,vs.map labOf=9::zs∧∀x∈zs,x=4:=by
  rcases(hg.data rfl).2 with⟨h9,-⟩|⟨-,h9⟩
  ·omega
  ·exact h9
 have:kl≠0:=by
  have h9:=congrArg List.length eks
  simp at h9;omega
 obtain⟨l1,rfl⟩:∃l1,kl=l1+1:=⟨kl - 1,by omega⟩
 obtain⟨cz,rfl⟩:∃cz,kc=cz+1:=⟨kc - 1,by omega⟩
 obtain rfl:cz=0:=by omega
 obtain⟨k0,p0,a0,b0,s0,o0,l0,c0,g,X0,Y0,Z0,e0,y0,z0,rfl,W0,WO0,WR0,C0⟩:=(kid_gw (fun g hg=>@hRs g hg) ht) hr hc (i:=0) (by omega) (fun x hx=>lab_nth (by rw[eks];rfl) hx)
 obtain⟨us,hus⟩:∃us,us=vs.drop 1:=⟨_,rfl⟩
 have hul:us.length=l1:=by rw[hus,List.length_drop];omega
 have em:(vs.map (kdAt f w0)).drop 1=us.map (kdAt f w0):=by rw[hus,List.map_drop]
 have hb:=hr.few
 rw[hkl] at hb
 have e:asm 3 1 m (name:ByteArray).data.toList (vs.map (kdAt f w0))=pWhen (m%2==1) [[112,117,98]]++([101,110,117,109]::(tl name::(X0++([123]::(pSep [44] (us.map (kdAt f w0))++[[125]]))))):=by
  show pWhen (m%2==1) [[112,117,98]]++pWhen (decide (2≤m)) [[99,111,112,121]]++([101,110,117,109]::tl name::((kd (vs.map (kdAt f w0)) 0).t++pRow [123] [125] ((vs.map (kdAt f w0)).drop 1)))=_
  rw[decide_eq_false hm2,e0,em]
  simp[pWhen,pRow]
 obtain rfl:F=[101,110,117,109]::(tl name::(X0++([123]::(pSep [44] (us.map (kdAt f w0))++[[125]])))):=List.append_cancel_left (hF.symm.trans e)
 clear e hF
 have q:=(Sw.start h hne hf).box (nodeC 3 pos 1 m name (.slice (some ⟨g,0,none⟩) (l1+1) (0+1)))
 have HW0:Hid (Wc B w0 wb 75 (nodeC k0 p0 a0 b0 s0 (.slice o0 l0 c0)) X0):=W0
 have HC0:Hid (∀W,Below B w0 W→B≤W.heap.size→g<W.heap.size∧∀j,j<11→W.cell? ⟨g,0*11+j,none⟩=(nodeC k0 p0 a0 b0 s0 (.slice o0 l0 c0)).toList[j]?):=C0
 have HL:Hid (NR B w0 f (some ⟨g,0,none⟩) us∧(∀x∈us,labOf x=4)∧us.length=l1):=⟨by obtain rfl:us=[]:=List.eq_nil_of_length_eq_zero (by omega);exact NR.nil,fun x hx=>hzs _ (by have:=labs_drop (mm:=1) (cs:=[9]) eks rfl;rw[←this,←hus];exact List.mem_map.2 ⟨x,hx,rfl⟩),hul⟩
 have HRs:Hid (∀g,g≤f→RN B w0 wb g):=fun g hg=>@hRs g hg
 have hm2I:¬2≤m:=hm2
 have hbI:(l1:Int)+1≤20000:=by omega
 subst hul
 clear e0 y0 z0 W0 WO0 WR0 C0
 clear h hne hf hr hg hc hkl hcap hRs hus em hb eks hzs hm2 hkc
 have F:=q.f1
 have lg:=(HC0.out _ q.wr.bel q.wr.base).1
 have G0:=kid0 (HC0.out _ q.wr.bel q.wr.base).2
 obtain⟨nb,hnb⟩:∃nb,nb=w.heap.size:=⟨_,rfl⟩
 go_enter Tryz.func73,Tryz.ntmps73
 go_wp2_with (first
  |(go_at_call 75;refine q.go (fun a1 a2 a3=>HW0.out a1 a2 a3) ?_;clear q F lg G0;intro w2 q;have F:=q.f1;have lg:=(HC0.out _ q.wr.bel q.wr.base).1;have G0:=kid0 (HC0.out _ q.wr.bel q.wr.base).2)
  |(go_at_call 33;refine q.put ?_;clear q F lg G0;intro w2 q;have F:=q.f1;have lg:=(HC0.out _ q.wr.bel q.wr.base).1;have G0:=kid0 (HC0.out _ q.wr.bel q.wr.base).2))
 rw[←hnb] at q F⊢
 clear hnb
 go_loopg [73] us.length (fun gg u wr=>∃(idx:Nat) (ts:List (List UInt8)),gg=us.length - idx∧u=.int .i64 idx∧idx≤us.length∧Hid (ts++pRest [44] (us.map (kdAt f w0)) idx=([101,110,117,109]::(tl name::(X0++([[123]]))))++pSep [44] (us.map (kdAt f w0)))∧Hid (Sw B w0 w wb bs ts (pRest [44] (us.map (kdAt f w0)) idx++[[125]]) wr [(nb,(nodeC 3 pos 1 m name (.slice (some ⟨g,0,none⟩) (us.length+1) (0+1))))]))
 case atStart=>exact⟨0,_,rfl,rfl,Nat.zero_le _,(by show _=_;simp[pRest]),q⟩
 case round=>
  clear q F
  obtain⟨idx,ts,hgk,rfl,hidx,HT,Q⟩:=hrel
  have HG:Hid (gk=us.length - idx):=hgk
  clear hgk
  by_cases hlt:idx<us.length
  ·have hltI:(idx:Int)<(us.length:Int):=by omega
   obtain⟨x,hx⟩:∃x,us[idx]? =some x:=⟨_,List.getElem?_eq_getElem hlt⟩
   obtain⟨gx,ox,hax,hgB,hcell⟩:=HL.out.1.cell idx x hx
   have hmem:=List.mem_of_getElem? hx
   obtain⟨kind2,pos2,n2,m2,name2,ko2,kl2,kc2,rfl,-,-⟩:=(HL.out.1.all x hmem).fields
   have HX:Hid (Nw B w0 f (nodeC kind2 pos2 n2 m2 name2 (.slice ko2 kl2 kc2)).toList∧labOf (nodeC kind2 pos2 n2 m2 name2 (.slice ko2 kl2 kc2)).toList=4∧(us.map (kdAt f w0))[idx]? =some (kdAt f w0 (nodeC kind2 pos2 n2 m2 name2 (.slice ko2 kl2 kc2)).toList)):=⟨HL.out.1.all _ hmem,HL.out.2.1 _ hmem,by rw[List.getElem?_map,hx];rfl⟩
   have lift:∀j,j<11→wr.cell? ⟨gx,ox+idx*11+j,none⟩=(nodeC kind2 pos2 n2 m2 name2 (.slice ko2 kl2 kc2)).toList[j]? :=fun j hj=>(Q.out.wr.bel.cell (p:=⟨gx,ox+idx*11+j,none⟩) hgB).trans (hcell j hj)
   have lgx:gx<wr.heap.size:=Nat.lt_of_lt_of_le hgB Q.out.wr.base
   obtain⟨rfl,rfl⟩:g=gx∧0=ox:=by simpa using hax
   have e0:=lift 0 (by decide)
   have e1:=lift 1 (by decide)
   have e2:=lift 2 (by decide)
   have e3:=lift 3 (by decide)
   have e4:=lift 4 (by decide)
   have e5:=lift 5 (by decide)
   have e6:=lift 6 (by decide)
   have e7:=lift 7 (by decide)
   have e8:=lift 8 (by decide)
   have e9:=lift 9 (by decide)
   have e10:=lift 10 (by decide)
   simp only[Nat.add_zero,Nat.zero_add] at e0 e1 e2 e3 e4 e5 e6 e7 e8 e9 e10
   clear lift hcell hx hmem
   obtain⟨hh,fs,hhle,hrf,hkf,hlf,hT⟩:=var4_open HX.out.1 HX.out.2.1
   have HL2:Hid (NR B w0 hh ko2 fs∧(∀x∈fs,labOf x=5)∧fs.length=kl2):=⟨hrf,hkf,hlf⟩
   have HRh:Hid (∀g,g≤hh→RN B w0 wb g):=fun g hg=>by have h9:=HRs.out;exact @h9 g (Nat.le_trans hg hhle)
   have hfew2:=hrf.few
   subst hlf
   clear hrf hkf hhle
   obtain⟨KT,hKT⟩:∃KT,KT=tl name2::pRnd (fs.map (kdAt hh w0)):=⟨_,rfl⟩
   have HKT:Hid (tok f w0 (nodeC kind2 pos2 n2 m2 name2 (.slice ko2 fs.length kc2)).toList=KT):=by show _=_;rw[hKT];exact hT
   clear hT
   rcases Nat.eq_zero_or_pos idx with h0|h0
   ·subst h0
    simp only[Nat.zero_mul,Nat.add_zero,Nat.zero_add] at e0 e1 e2 e3 e4 e5 e6 e7 e8 e9 e10
    have st:pRest [44] (us.map (kdAt f w0)) 0=KT++(pRest [44] (us.map (kdAt f w0)) (0+1)):=by rw[pRest_zero HX.out.2.2];exact congrArg (· ++_) HKT.out
    have HE:Hid (ts++([]++(KT++pRest [44] (us.map (kdAt f w0)) (0+1)))=([101,110,117,109]::(tl name::(X0++([[123]]))))++pSep [44] (us.map (kdAt f w0))):=by show _=_;rw[←HT.out,st];simp
    by_cases hz:fs.length=0
    ·have q:=((Q.out.as (rest':=tl name2::(pRest [44] (us.map (kdAt f w0)) (0+1)++[[125]])) (by rw[st,hKT];simp[pRnd,hz])).box (nodeC kind2 pos2 n2 m2 name2 (.slice ko2 fs.length kc2)))
     have HE2:Hid (ts++([tl name2]++pRest [44] (us.map (kdAt f w0)) (0+1))=([101,110,117,109]::(tl name::(X0++([[123]]))))++pSep [44] (us.map (kdAt f w0))):=by show _=_;rw[←HE.out,hKT];simp[pRnd,hz]
     clear st hKT
     have F:=q.f1
     have hzI:¬(0:Int)<(fs.length:Int):=by omega
     clear hz
     go_wp2_with (first|(go_at_call 33;refine q.put ?_;clear q F;intro w2 q;have F:=q.f1))
     go_roundg (us.length - (0+1))
     case measure=>rw[HG.out];omega
     case rel=>exact⟨0+1,_,rfl,by go_num,hlt,(by show _=_;have:=HE2.out;simpa using this),q.pop⟩
    ·have q:=((Q.out.as (rest':=tl name2::([40]::(pSep [44] (fs.map (kdAt hh w0))++([41]::(pRest [44] (us.map (kdAt f w0)) (0+1)++[[125]]))))) (by rw[st,hKT];simp[pRnd,hz,pRow])).box (nodeC kind2 pos2 n2 m2 name2 (.slice ko2 fs.length kc2)))
     have HE2:Hid (ts++([tl name2]++[[40]]++(pSep [44] (fs.map (kdAt hh w0)))++[[41]]++pRest [44] (us.map (kdAt f w0)) (0+1))=([101,110,117,109]::(tl name::(X0++([[123]]))))++pSep [44] (us.map (kdAt f w0))):=by show _=_;rw[←HE.out,hKT];simp[pRnd,hz,pRow]
     clear st hKT
     have F:=q.f1
     have hzI:(0:Int)<(fs.length:Int):=by omega
     clear hz
     obtain⟨ob,hob⟩:∃ob,ob=wr.heap.size:=⟨_,rfl⟩
     go_wp2_with (first|(go_at_call 33;refine q.put ?_;clear q F;intro w2 q;have F:=q.f1))
     rw[←hob] at q F⊢
     clear hob
     go_loopg [95] fs.length (fun gg u wr=>∃(idxi:Nat) (tsi:List (List UInt8)),gg=fs.length - idxi∧u=.int .i64 idxi∧idxi≤fs.length∧Hid (tsi++pRest [44] (fs.map (kdAt hh w0)) idxi=(ts++[]++[tl name2,[40]])++pSep [44] (fs.map (kdAt hh w0)))∧Hid (Sw B w0 w wb bs tsi (pRest [44] (fs.map (kdAt hh w0)) idxi++([41]::(pRest [44] (us.map (kdAt f w0)) (0+1)++[[125]]))) wr [(ob,(nodeC kind2 pos2 n2 m2 name2 (.slice ko2 fs.length kc2))),(nb,(nodeC 3 pos 1 m name (.slice (some ⟨g,0,none⟩) (us.length+1) (0+1))))]))
     case atStart=>exact⟨0,_,rfl,rfl,Nat.zero_le _,(by show _=_;simp[pRest]),q⟩
     case round=>
      clear q F
      obtain⟨idxi,tsi,hgki,rfl,hidxi,HTi,Qi⟩:=hrel
      have HGi:Hid (gk=fs.length - idxi):=hgki
      clear hgki
      by_cases hlti:idxi<fs.length
      ·have hltIi:(idxi:Int)<(fs.length:Int):=by omega
       obtain⟨xi,hxi⟩:∃xi,fs[idxi]? =some xi:=⟨_,List.getElem?_eq_getElem hlti⟩
       obtain⟨gxi,oxi,haxi,hgBi,hcelli⟩:=HL2.out.1.cell idxi xi hxi
       have hmemi:=List.mem_of_getElem? hxi
       obtain⟨kind2i,pos2i,n2i,m2i,name2i,ko2i,kl2i,kc2i,rfl,-,-⟩:=(HL2.out.1.all xi hmemi).fields
       have HXi:Hid (Nw B w0 hh (nodeC kind2i pos2i n2i m2i name2i (.slice ko2i kl2i kc2i)).toList∧labOf (nodeC kind2i pos2i n2i m2i name2i (.slice ko2i kl2i kc2i)).toList=5∧(fs.map (kdAt hh w0))[idxi]? =some (kdAt hh w0 (nodeC kind2i pos2i n2i m2i name2i (.slice ko2i kl2i kc2i)).toList)):=⟨HL2.out.1.all _ hmemi,HL2.out.2.1 _ hmemi,by rw[List.getElem?_map,hxi];rfl⟩
       have lifti:∀j,j<11→wr.cell? ⟨gxi,oxi+idxi*11+j,none⟩=(nodeC kind2i pos2i n2i m2i name2i (.slice ko2i kl2i kc2i)).toList[j]? :=fun j hj=>(Qi.out.wr.bel.cell (p:=⟨gxi,oxi+idxi*11+j,none⟩) hgBi).trans (hcelli j hj)
       have lgxi:gxi<wr.heap.size:=Nat.lt_of_lt_of_le hgBi Qi.out.wr.base
       subst haxi
       have e0i:=lifti 0 (by decide)
       have e1i:=lifti 1 (by decide)
       have e2i:=lifti 2 (by decide)
       have e3i:=lifti 3 (by decide)
       have e4i:=lifti 4 (by decide)
       have e5i:=lifti 5 (by decide)
       have e6i:=lifti 6 (by decide)
       have e7i:=lifti 7 (by decide)
       have e8i:=lifti 8 (by decide)
       have e9i:=lifti 9 (by decide)
       have e10i:=lifti 10 (by decide)
       simp only[Nat.add_zero,Nat.zero_add] at e0i e1i e2i e3i e4i e5i e6i e7i e8i e9i e10i
       clear lifti hcelli hxi hmemi
       obtain⟨k3,p3,a3,b3,s3,o3,l3,c3,g3,T,hko,hkl2,HW',HC',hT⟩:=field5_open HRh.out HXi.out.1 HXi.out.2.1
       subst hko hkl2
       have HW:Hid (Wc B w0 wb 76 (nodeC k3 p3 a3 b3 s3 (.slice o3 l3 c3)) T):=HW'
       have HC:Hid (∀W,Below B w0 W→B≤W.heap.size→g3<W.heap.size∧∀j,j<11→W.cell? ⟨g3,0*11+j,none⟩=(nodeC k3 p3 a3 b3 s3 (.slice o3 l3 c3)).toList[j]?):=HC'
       clear HW' HC'
       have lg2:=(HC.out _ Qi.out.wr.bel Qi.out.wr.base).1
       have G3:=kid0 (HC.out _ Qi.out.wr.bel Qi.out.wr.base).2
       obtain⟨KTi,hKTi⟩:∃KTi,KTi=T:=⟨_,rfl⟩
       have HKTi:Hid (tok hh w0 (nodeC kind2i pos2i n2i m2i name2i (.slice (some ⟨g3,0,none⟩) 1 kc2i)).toList=KTi):=by show _=_;rw[hKTi];exact hT
       clear hT
       rcases Nat.eq_zero_or_pos idxi with h0i|h0i
       ·subst h0i
        simp only[Nat.zero_mul,Nat.add_zero,Nat.zero_add] at e0i e1i e2i e3i e4i e5i e6i e7i e8i e9i e10i
        have sti:pRest [44] (fs.map (kdAt hh w0)) 0=KTi++(pRest [44] (fs.map (kdAt hh w0)) (0+1)):=by rw[pRest_zero HXi.out.2.2];exact congrArg (· ++_) HKTi.out
        have HEi:Hid (tsi++([]++(KTi++pRest [44] (fs.map (kdAt hh w0)) (0+1)))=(ts++[]++[tl name2,[40]])++pSep [44] (fs.map (kdAt hh w0))):=by show _=_;rw[←HTi.out,sti];simp
        have q:=((Qi.out.as (rest':=T++(pRest [44] (fs.map (kdAt hh w0)) (0+1)++([41]::(pRest [44] (us.map (kdAt f w0)) (0+1)++[[125]])))) (by rw[sti,hKTi];simp)).box (nodeC kind2i pos2i n2i m2i name2i (.slice (some ⟨g3,0,none⟩) 1 kc2i)))
        have HE2i:Hid (tsi++((T)++pRest [44] (fs.map (kdAt hh w0)) (0+1))=(ts++[]++[tl name2,[40]])++pSep [44] (fs.map (kdAt hh w0))):=by show _=_;rw[←HEi.out,hKTi];simp
        clear sti hKTi
        have F:=q.f1
        go_wp2_with (first
         |(go_at_call 76;refine q.go (fun a1 a2 a3=>HW.out a1 a2 a3) ?_;clear q F lg2 G3;intro w2 q;have F:=q.f1;have lg2:=(HC.out _ q.wr.bel q.wr.base).1;have G3:=kid0 (HC.out _ q.wr.bel q.wr.base).2)
         |(go_at_call 33;refine q.put ?_;clear q F lg2 G3;intro w2 q;have F:=q.f1;have lg2:=(HC.out _ q.wr.bel q.wr.base).1;have G3:=kid0 (HC.out _ q.wr.bel q.wr.base).2))
        go_roundg (fs.length - (0+1))
        case measure=>rw[HGi.out];omega
        case rel=>exact⟨0+1,_,rfl,by go_num,hlti,(by show _=_;have:=HE2i.out;simpa using this),q.pop⟩
       ·have hIi:(0:Int)<(idxi:Int):=by omega
        have sti:pRest [44] (fs.map (kdAt hh w0)) idxi=[44]::(KTi++(pRest [44] (fs.map (kdAt hh w0)) (idxi+1))):=by rw[pRest_succ h0i HXi.out.2.2];exact congrArg (fun z=>[44]::(z++_)) HKTi.out
        have HEi:Hid (tsi++([[44]]++(KTi++pRest [44] (fs.map (kdAt hh w0)) (idxi+1)))=(ts++[]++[tl name2,[40]])++pSep [44] (fs.map (kdAt hh w0))):=by show _=_;rw[←HTi.out,sti];simp
        have q:=((Qi.out.as (rest':=[44]::(T++(pRest [44] (fs.map (kdAt hh w0)) (idxi+1)++([41]::(pRest [44] (us.map (kdAt f w0)) (0+1)++[[125]]))))) (by rw[sti,hKTi];simp)).box (nodeC kind2i pos2i n2i m2i name2i (.slice (some ⟨g3,0,none⟩) 1 kc2i)))
        have HE2i:Hid (tsi++([[44]]++(T)++pRest [44] (fs.map (kdAt hh w0)) (idxi+1))=(ts++[]++[tl name2,[40]])++pSep [44] (fs.map (kdAt hh w0))):=by show _=_;rw[←HEi.out,hKTi];simp
        clear sti hKTi
        have F:=q.f1
        go_wp2_with (first
         |(go_at_call 76;refine q.go (fun a1 a2 a3=>HW.out a1 a2 a3) ?_;clear q F lg2 G3;intro w2 q;have F:=q.f1;have lg2:=(HC.out _ q.wr.bel q.wr.base).1;have G3:=kid0 (HC.out _ q.wr.bel q.wr.base).2)
         |(go_at_call 33;refine q.put ?_;clear q F lg2 G3;intro w2 q;have F:=q.f1;have lg2:=(HC.out _ q.wr.bel q.wr.base).1;have G3:=kid0 (HC.out _ q.wr.bel q.wr.base).2))
        go_roundg (fs.length - (idxi+1))
        case measure=>rw[HGi.out];omega
        case rel=>exact⟨idxi+1,_,rfl,by go_num,hlti,(by show _=_;have:=HE2i.out;simpa using this),q.pop⟩
      ·have hltIi:¬(idxi:Int)<(fs.length:Int):=by omega
       obtain rfl:idxi=fs.length:=by omega
       have ei:pRest [44] (fs.map (kdAt hh w0)) fs.length=[]:=by have:=pRest_end (s:=[44]) (ks:=(fs.map (kdAt hh w0)));rwa [List.length_map] at this
       have q:=Qi.out.as (rest':=([41]::(pRest [44] (us.map (kdAt f w0)) (0+1)++[[125]]))) (by rw[ei];rfl)
       have HEi:Hid (tsi=(ts++[]++[tl name2,[40]])++pSep [44] (fs.map (kdAt hh w0))):=by show _=_;rw[←HTi.out,ei,List.append_nil]
       clear ei
       have F:=q.f1
       go_wp2_with (go_at_call 33;refine q.put ?_;clear q F;intro w3 q;have F:=q.f1)
       go_roundg (us.length - (0+1))
       case measure=>rw[HG.out];omega
       case rel=>exact⟨0+1,tsi++[[41]],rfl,by go_num,hlt,(by show _=_;rw[HEi.out];have:=HE2.out;simpa using this),q.pop⟩
   ·have hI:(0:Int)<(idx:Int):=by omega
    have st:pRest [44] (us.map (kdAt f w0)) idx=[44]::(KT++(pRest [44] (us.map (kdAt f w0)) (idx+1))):=by rw[pRest_succ h0 HX.out.2.2];exact congrArg (fun z=>[44]::(z++_)) HKT.out
    have HE:Hid (ts++([[44]]++(KT++pRest [44] (us.map (kdAt f w0)) (idx+1)))=([101,110,117,109]::(tl name::(X0++([[123]]))))++pSep [44] (us.map (kdAt f w0))):=by show _=_;rw[←HT.out,st];simp
    by_cases hz:fs.length=0
    ·have q:=((Q.out.as (rest':=[44]::(tl name2::(pRest [44] (us.map (kdAt f w0)) (idx+1)++[[125]]))) (by rw[st,hKT];simp[pRnd,hz])).box (nodeC kind2 pos2 n2 m2 name2 (.slice ko2 fs.length kc2)))
     have HE2:Hid (ts++([[44]]++[tl name2]++pRest [44] (us.map (kdAt f w0)) (idx+1))=([101,110,117,109]::(tl name::(X0++([[123]]))))++pSep [44] (us.map (kdAt f w0))):=by show _=_;rw[←HE.out,hKT];simp[pRnd,hz]
     clear st hKT
     have F:=q.f1
     have hzI:¬(0:Int)<(fs.length:Int):=by omega
     clear hz
     go_wp2_with (first|(go_at_call 33;refine q.put ?_;clear q F;intro w2 q;have F:=q.f1))
     go_roundg (us.length - (idx+1))
     case measure=>rw[HG.out];omega
     case rel=>exact⟨idx+1,_,rfl,by go_num,hlt,(by show _=_;have:=HE2.out;simpa using this),q.pop⟩
    ·have q:=((Q.out.as (rest':=[44]::(tl name2::([40]::(pSep [44] (fs.map (kdAt hh w0))++([41]::(pRest [44] (us.map (kdAt f w0)) (idx+1)++[[125]])))))) (by rw[st,hKT];simp[pRnd,hz,pRow])).box (nodeC kind2 pos2 n2 m2 name2 (.slice ko2 fs.length kc2)))
     have HE2:Hid (ts++([[44]]++[tl name2]++[[40]]++(pSep [44] (fs.map (kdAt hh w0)))++[[41]]++pRest [44] (us.map (kdAt f w0)) (idx+1))=([101,110,117,109]::(tl name::(X0++([[123]]))))++pSep [44] (us.map (kdAt f w0))):=by show _=_;rw[←HE.out,hKT];simp[pRnd,hz,pRow]
     clear st hKT
     have F:=q.f1
     have hzI:(0:Int)<(fs.length:Int):=by omega
     clear hz
     obtain⟨ob,hob⟩:∃ob,ob=wr.heap.size:=⟨_,rfl⟩
     go_wp2_with (first|(go_at_call 33;refine q.put ?_;clear q F;intro w2 q;have F:=q.f1))
     rw[←hob] at q F⊢
     clear hob
     go_loopg [95] fs.length (fun gg u wr=>∃(idxi:Nat) (tsi:List (List UInt8)),gg=fs.length - idxi∧u=.int .i64 idxi∧idxi≤fs.length∧Hid (tsi++pRest [44] (fs.map (kdAt hh w0)) idxi=(ts++[[44]]++[tl name2,[40]])++pSep [44] (fs.map (kdAt hh w0)))∧Hid (Sw B w0 w wb bs tsi (pRest [44] (fs.map (kdAt hh w0)) idxi++([41]::(pRest [44] (us.map (kdAt f w0)) (idx+1)++[[125]]))) wr [(ob,(nodeC kind2 pos2 n2 m2 name2 (.slice ko2 fs.length kc2))),(nb,(nodeC 3 pos 1 m name (.slice (some ⟨g,0,none⟩) (us.length+1) (0+1))))]))
     case atStart=>exact⟨0,_,rfl,rfl,Nat.zero_le _,(by show _=_;simp[pRest]),q⟩
     case round=>
      clear q F
      obtain⟨idxi,tsi,hgki,rfl,hidxi,HTi,Qi⟩:=hrel
      have HGi:Hid (gk=fs.length - idxi):=hgki
      clear hgki
      by_cases hlti:idxi<fs.length
      ·have hltIi:(idxi:Int)<(fs.length:Int):=by omega
       obtain⟨xi,hxi⟩:∃xi,fs[idxi]? =some xi:=⟨_,List.getElem?_eq_getElem hlti⟩
       obtain⟨gxi,oxi,haxi,hgBi,hcelli⟩:=HL2.out.1.cell idxi xi hxi
       have hmemi:=List.mem_of_getElem? hxi
       obtain⟨kind2i,pos2i,n2i,m2i,name2i,ko2i,kl2i,kc2i,rfl,-,-⟩:=(HL2.out.1.all xi hmemi).fields
       have HXi:Hid (Nw B w0 hh (nodeC kind2i pos2i n2i m2i name2i (.slice ko2i kl2i kc2i)).toList∧labOf (nodeC kind2i pos2i n2i m2i name2i (.slice ko2i kl2i kc2i)).toList=5∧(fs.map (kdAt hh w0))[idxi]? =some (kdAt hh w0 (nodeC kind2i pos2i n2i m2i name2i (.slice ko2i kl2i kc2i)).toList)):=⟨HL2.out.1.all _ hmemi,HL2.out.2.1 _ hmemi,by rw[List.getElem?_map,hxi];rfl⟩
       have lifti:∀j,j<11→wr.cell? ⟨gxi,oxi+idxi*11+j,none⟩=(nodeC kind2i pos2i n2i m2i name2i (.slice ko2i kl2i kc2i)).toList[j]? :=fun j hj=>(Qi.out.wr.bel.cell (p:=⟨gxi,oxi+idxi*11+j,none⟩) hgBi).trans (hcelli j hj)
       have lgxi:gxi<wr.heap.size:=Nat.lt_of_lt_of_le hgBi Qi.out.wr.base
       subst haxi
       have e0i:=lifti 0 (by decide)
       have e1i:=lifti 1 (by decide)
       have e2i:=lifti 2 (by decide)
       have e3i:=lifti 3 (by decide)
       have e4i:=lifti 4 (by decide)
       have e5i:=lifti 5 (by decide)
       have e6i:=lifti 6 (by decide)
       have e7i:=lifti 7 (by decide)
       have e8i:=lifti 8 (by decide)
       have e9i:=lifti 9 (by decide)
       have e10i:=lifti 10 (by decide)
       simp only[Nat.add_zero,Nat.zero_add] at e0i e1i e2i e3i e4i e5i e6i e7i e8i e9i e10i
       clear lifti hcelli hxi hmemi
       obtain⟨k3,p3,a3,b3,s3,o3,l3,c3,g3,T,hko,hkl2,HW',HC',hT⟩:=field5_open HRh.out HXi.out.1 HXi.out.2.1
       subst hko hkl2
       have HW:Hid (Wc B w0 wb 76 (nodeC k3 p3 a3 b3 s3 (.slice o3 l3 c3)) T):=HW'
       have HC:Hid (∀W,Below B w0 W→B≤W.heap.size→g3<W.heap.size∧∀j,j<11→W.cell? ⟨g3,0*11+j,none⟩=(nodeC k3 p3 a3 b3 s3 (.slice o3 l3 c3)).toList[j]?):=HC'
       clear HW' HC'
       have lg2:=(HC.out _ Qi.out.wr.bel Qi.out.wr.base).1
       have G3:=kid0 (HC.out _ Qi.out.wr.bel Qi.out.wr.base).2
       obtain⟨KTi,hKTi⟩:∃KTi,KTi=T:=⟨_,rfl⟩
       have HKTi:Hid (tok hh w0 (nodeC kind2i pos2i n2i m2i name2i (.slice (some ⟨g3,0,none⟩) 1 kc2i)).toList=KTi):=by show _=_;rw[hKTi];exact hT
       clear hT
       rcases Nat.eq_zero_or_pos idxi with h0i|h0i
       ·subst h0i
        simp only[Nat.zero_mul,Nat.add_zero,Nat.zero_add] at e0i e1i e2i e3i e4i e5i e6i e7i e8i e9i e10i
        have sti:pRest [44] (fs.map (kdAt hh w0)) 0=KTi++(pRest [44] (fs.map (kdAt hh w0)) (0+1)):=by rw[pRest_zero HXi.out.2.2];exact congrArg (· ++_) HKTi.out
        have HEi:Hid (tsi++([]++(KTi++pRest [44] (fs.map (kdAt hh w0)) (0+1)))=(ts++[[44]]++[tl name2,[40]])++pSep [44] (fs.map (kdAt hh w0))):=by show _=_;rw[←HTi.out,sti];simp
        have q:=((Qi.out.as (rest':=T++(pRest [44] (fs.map (kdAt hh w0)) (0+1)++([41]::(pRest [44] (us.map (kdAt f w0)) (idx+1)++[[125]])))) (by rw[sti,hKTi];simp)).box (nodeC kind2i pos2i n2i m2i name2i (.slice (some ⟨g3,0,none⟩) 1 kc2i)))
        have HE2i:Hid (tsi++((T)++pRest [44] (fs.map (kdAt hh w0)) (0+1))=(ts++[[44]]++[tl name2,[40]])++pSep [44] (fs.map (kdAt hh w0))):=by show _=_;rw[←HEi.out,hKTi];simp
        clear sti hKTi
        have F:=q.f1
        go_wp2_with (first
         |(go_at_call 76;refine q.go (fun a1 a2 a3=>HW.out a1 a2 a3) ?_;clear q F lg2 G3;intro w2 q;have F:=q.f1;have lg2:=(HC.out _ q.wr.bel q.wr.base).1;have G3:=kid0 (HC.out _ q.wr.bel q.wr.base).2)
         |(go_at_call 33;refine q.put ?_;clear q F lg2 G3;intro w2 q;have F:=q.f1;have lg2:=(HC.out _ q.wr.bel q.wr.base).1;have G3:=kid0 (HC.out _ q.wr.bel q.wr.base).2))
        go_roundg (fs.length - (0+1))
        case measure=>rw[HGi.out];omega
        case rel=>exact⟨0+1,_,rfl,by go_num,hlti,(by show _=_;have:=HE2i.out;simpa using this),q.pop⟩
       ·have hIi:(0:Int)<(idxi:Int):=by omega
        have sti:pRest [44] (fs.map (kdAt hh w0)) idxi=[44]::(KTi++(pRest [44] (fs.map (kdAt hh w0)) (idxi+1))):=by rw[pRest_succ h0i HXi.out.2.2];exact congrArg (fun z=>[44]::(z++_)) HKTi.out
        have HEi:Hid (tsi++([[44]]++(KTi++pRest [44] (fs.map (kdAt hh w0)) (idxi+1)))=(ts++[[44]]++[tl name2,[40]])++pSep [44] (fs.map (kdAt hh w0))):=by show _=_;rw[←HTi.out,sti];simp
        have q:=((Qi.out.as (rest':=[44]::(T++(pRest [44] (fs.map (kdAt hh w0)) (idxi+1)++([41]::(pRest [44] (us.map (kdAt f w0)) (idx+1)++[[125]]))))) (by rw[sti,hKTi];simp)).box (nodeC kind2i pos2i n2i m2i name2i (.slice (some ⟨g3,0,none⟩) 1 kc2i)))
        have HE2i:Hid (tsi++([[44]]++(T)++pRest [44] (fs.map (kdAt hh w0)) (idxi+1))=(ts++[[44]]++[tl name2,[40]])++pSep [44] (fs.map (kdAt hh w0))):=by show _=_;rw[←HEi.out,hKTi];simp
        clear sti hKTi
        have F:=q.f1
        go_wp2_with (first
         |(go_at_call 76;refine q.go (fun a1 a2 a3=>HW.out a1 a2 a3) ?_;clear q F lg2 G3;intro w2 q;have F:=q.f1;have lg2:=(HC.out _ q.wr.bel q.wr.base).1;have G3:=kid0 (HC.out _ q.wr.bel q.wr.base).2)
         |(go_at_call 33;refine q.put ?_;clear q F lg2 G3;intro w2 q;have F:=q.f1;have lg2:=(HC.out _ q.wr.bel q.wr.base).1;have G3:=kid0 (HC.out _ q.wr.bel q.wr.base).2))
        go_roundg (fs.length - (idxi+1))
        case measure=>rw[HGi.out];omega
        case rel=>exact⟨idxi+1,_,rfl,by go_num,hlti,(by show _=_;have:=HE2i.out;simpa using this),q.pop⟩
      ·have hltIi:¬(idxi:Int)<(fs.length:Int):=by omega
       obtain rfl:idxi=fs.length:=by omega
       have ei:pRest [44] (fs.map (kdAt hh w0)) fs.length=[]:=by have:=pRest_end (s:=[44]) (ks:=(fs.map (kdAt hh w0)));rwa [List.length_map] at this
       have q:=Qi.out.as (rest':=([41]::(pRest [44] (us.map (kdAt f w0)) (idx+1)++[[125]]))) (by rw[ei];rfl)
       have HEi:Hid (tsi=(ts++[[44]]++[tl name2,[40]])++pSep [44] (fs.map (kdAt hh w0))):=by show _=_;rw[←HTi.out,ei,List.append_nil]
       clear ei
       have F:=q.f1
       go_wp2_with (go_at_call 33;refine q.put ?_;clear q F;intro w3 q;have F:=q.f1)
       go_roundg (us.length - (idx+1))
       case measure=>rw[HG.out];omega
       case rel=>exact⟨idx+1,tsi++[[41]],rfl,by go_num,hlt,(by show _=_;rw[HEi.out];have:=HE2.out;simpa using this),q.pop⟩
  ·have hltI:¬(idx:Int)<(us.length:Int):=by omega
   obtain rfl:idx=us.length:=by omega
   have e:pRest [44] (us.map (kdAt f w0)) us.length=[]:=by have:=pRest_end (s:=[44]) (ks:=(us.map (kdAt f w0)));rwa [List.length_map] at this
   have q:=Q.out.as (rest':=[[125]]) (by rw[e];rfl)
   have HE:Hid (ts=([101,110,117,109]::(tl name::(X0++([[123]]))))++pSep [44] (us.map (kdAt f w0))):=by show _=_;rw[←HT.out,e,List.append_nil]
   clear e
   have F:=q.f1
   go_wp2_with (go_at_call 33;refine q.put ?_;clear q F;intro w3 q;have F:=q.f1)
   go_end0
   exact q.done (by rw[HE.out];simp)
set_option maxRecDepth 100000 in
set_option maxHeartbeats 2000000 in
theorem e73_3e11 (hRs:∀g,g≤f→RN B w0 wb g) (ht:Tab B w0) (hn0:n=1) (hm2:2≤m) (hkc:kc=1) {F:List (List UInt8)} (hx:Nw B w0 (f+1) (nodeC 3 pos n m name (.slice ko kl kc)).toList) (hF:tok (f+1) w0 (nodeC 3 pos n m name (.slice ko kl kc)).toList=pWhen (m%2==1) [[112,117,98]]++F):Wc B w0 wb 73 (nodeC 3 pos n m name (.slice ko kl kc)) F:=by
 intro w bs h hne hf
 have hR:RN B w0 wb f:=@hRs f (Nat.le_refl f)
 have hcap:=hx.cap
 obtain⟨vs,hkl,hr,hg,htok,hs,hc⟩:=hx.opened
 rw[htok] at hF
 clear htok hx
 obtain rfl:n=1:=hn0
 obtain⟨zs,eks,hzs⟩:∃zs,vs.map labOf=9::zs∧∀x∈zs,x=4:=by
  rcases(hg.data rfl).2 with⟨h9,-⟩|⟨-,h9⟩
  ·omega
  ·exact h9
 have:kl≠0:=by
  have h9:=congrArg List.length eks
  simp at h9;omega
 obtain⟨l1,rfl⟩:∃l1,kl=l1+1:=⟨kl - 1,by omega⟩
 obtain⟨cz,rfl⟩:∃cz,kc=cz+1:=⟨kc - 1,by omega⟩
 obtain rfl:cz=0:=by omega
 obtain⟨k0,p0,a0,b0,s0,o0,l0,c0,g,X0,Y0,Z0,e0,y0,z0,rfl,W0,WO0,WR0,C0⟩:=(kid_gw (fun g hg=>@hRs g hg) ht) hr hc (i:=0) (by omega) (fun x hx=>lab_nth (by rw[eks];rfl) hx)
 obtain⟨us,hus⟩:∃us,us=vs.drop 1:=⟨_,rfl⟩
 have hul:us.length=l1:=by rw[hus,List.length_drop];omega
 have em:(vs.map (kdAt f w0)).drop 1=us.map (kdAt f w0):=by rw[hus,List.map_drop]
 have hb:=hr.few
 rw[hkl] at hb
 have e:asm 3 1 m (name:ByteArray).data.toList (vs.map (kdAt f w0))=pWhen (m%2==1) [[112,117,98]]++([99,111,112,121]::([101,110,117,109]::(tl name::(X0++([123]::(pSep [44] (us.map (kdAt f w0))++[[125]])))))):=by
  show pWhen (m%2==1) [[112,117,98]]++pWhen (decide (2≤m)) [[99,111,112,121]]++([101,110,117,109]::tl name::((kd (vs.map (kdAt f w0)) 0).t++pRow [123] [125] ((vs.map (kdAt f w0)).drop 1)))=_
  rw[decide_eq_true hm2,e0,em]
  simp[pWhen,pRow]
 obtain rfl:F=[99,111,112,121]::([101,110,117,109]::(tl name::(X0++([123]::(pSep [44] (us.map (kdAt f w0))++[[125]]))))):=List.append_cancel_left (hF.symm.trans e)
 clear e hF
 have q:=(Sw.start h hne hf).box (nodeC 3 pos 1 m name (.slice (some ⟨g,0,none⟩) (l1+1) (0+1)))
 have HW0:Hid (Wc B w0 wb 75 (nodeC k0 p0 a0 b0 s0 (.slice o0 l0 c0)) X0):=W0
 have HC0:Hid (∀W,Below B w0 W→B≤W.heap.size→g<W.heap.size∧∀j,j<11→W.cell? ⟨g,0*11+j,none⟩=(nodeC k0 p0 a0 b0 s0 (.slice o0 l0 c0)).toList[j]?):=C0
 have HL:Hid (NR B w0 f (some ⟨g,0,none⟩) us∧(∀x∈us,labOf x=4)∧us.length=l1):=⟨by obtain rfl:us=[]:=List.eq_nil_of_length_eq_zero (by omega);exact NR.nil,fun x hx=>hzs _ (by have:=labs_drop (mm:=1) (cs:=[9]) eks rfl;rw[←this,←hus];exact List.mem_map.2 ⟨x,hx,rfl⟩),hul⟩
 have HRs:Hid (∀g,g≤f→RN B w0 wb g):=fun g hg=>@hRs g hg
 have hm2I:2≤m:=hm2
 have hbI:(l1:Int)+1≤20000:=by omega
 subst hul
 clear e0 y0 z0 W0 WO0 WR0 C0
 clear h hne hf hr hg hc hkl hcap hRs hus em hb eks hzs hm2 hkc
 have F:=q.f1
 have lg:=(HC0.out _ q.wr.bel q.wr.base).1
 have G0:=kid0 (HC0.out _ q.wr.bel q.wr.base).2
 obtain⟨nb,hnb⟩:∃nb,nb=w.heap.size:=⟨_,rfl⟩
 go_enter Tryz.func73,Tryz.ntmps73
 go_wp2_with (first
  |(go_at_call 75;refine q.go (fun a1 a2 a3=>HW0.out a1 a2 a3) ?_;clear q F lg G0;intro w2 q;have F:=q.f1;have lg:=(HC0.out _ q.wr.bel q.wr.base).1;have G0:=kid0 (HC0.out _ q.wr.bel q.wr.base).2)
  |(go_at_call 33;refine q.put ?_;clear q F lg G0;intro w2 q;have F:=q.f1;have lg:=(HC0.out _ q.wr.bel q.wr.base).1;have G0:=kid0 (HC0.out _ q.wr.bel q.wr.base).2))
 rw[←hnb] at q F⊢
 clear hnb
 go_loopg [73] us.length (fun gg u wr=>∃(idx:Nat) (ts:List (List UInt8)),gg=us.length - idx∧u=.int .i64 idx∧idx≤us.length∧Hid (ts++pRest [44] (us.map (kdAt f w0)) idx=([99,111,112,121]::([101,110,117,109]::(tl name::(X0++([[123]])))))++pSep [44] (us.map (kdAt f w0)))∧Hid (Sw B w0 w wb bs ts (pRest [44] (us.map (kdAt f w0)) idx++[[125]]) wr [(nb,(nodeC 3 pos 1 m name (.slice (some ⟨g,0,none⟩) (us.length+1) (0+1))))]))
 case atStart=>exact⟨0,_,rfl,rfl,Nat.zero_le _,(by show _=_;simp[pRest]),q⟩
 case round=>
  clear q F
  obtain⟨idx,ts,hgk,rfl,hidx,HT,Q⟩:=hrel
  have HG:Hid (gk=us.length - idx):=hgk
  clear hgk
  by_cases hlt:idx<us.length
  ·have hltI:(idx:Int)<(us.length:Int):=by omega
   obtain⟨x,hx⟩:∃x,us[idx]? =some x:=⟨_,List.getElem?_eq_getElem hlt⟩
   obtain⟨gx,ox,hax,hgB,hcell⟩:=HL.out.1.cell idx x hx
   have hmem:=List.mem_of_getElem? hx
   obtain⟨kind2,pos2,n2,m2,name2,ko2,kl2,kc2,rfl,-,-⟩:=(HL.out.1.all x hmem).fields
   have HX:Hid (Nw B w0 f (nodeC kind2 pos2 n2 m2 name2 (.slice ko2 kl2 kc2)).toList∧labOf (nodeC kind2 pos2 n2 m2 name2 (.slice ko2 kl2 kc2)).toList=4∧(us.map (kdAt f w0))[idx]? =some (kdAt f w0 (nodeC kind2 pos2 n2 m2 name2 (.slice ko2 kl2 kc2)).toList)):=⟨HL.out.1.all _ hmem,HL.out.2.1 _ hmem,by rw[List.getElem?_map,hx];rfl⟩
   have lift:∀j,j<11→wr.cell? ⟨gx,ox+idx*11+j,none⟩=(nodeC kind2 pos2 n2 m2 name2 (.slice ko2 kl2 kc2)).toList[j]? :=fun j hj=>(Q.out.wr.bel.cell (p:=⟨gx,ox+idx*11+j,none⟩) hgB).trans (hcell j hj)
   have lgx:gx<wr.heap.size:=Nat.lt_of_lt_of_le hgB Q.out.wr.base
   obtain⟨rfl,rfl⟩:g=gx∧0=ox:=by simpa using hax
   have e0:=lift 0 (by decide)
   have e1:=lift 1 (by decide)
   have e2:=lift 2 (by decide)
   have e3:=lift 3 (by decide)
   have e4:=lift 4 (by decide)
   have e5:=lift 5 (by decide)
   have e6:=lift 6 (by decide)
   have e7:=lift 7 (by decide)
   have e8:=lift 8 (by decide)
   have e9:=lift 9 (by decide)
   have e10:=lift 10 (by decide)
   simp only[Nat.add_zero,Nat.zero_add] at e0 e1 e2 e3 e4 e5 e6 e7 e8 e9 e10
   clear lift hcell hx hmem
   obtain⟨hh,fs,hhle,hrf,hkf,hlf,hT⟩:=var4_open HX.out.1 HX.out.2.1
   have HL2:Hid (NR B w0 hh ko2 fs∧(∀x∈fs,labOf x=5)∧fs.length=kl2):=⟨hrf,hkf,hlf⟩
   have HRh:Hid (∀g,g≤hh→RN B w0 wb g):=fun g hg=>by have h9:=HRs.out;exact @h9 g (Nat.le_trans hg hhle)
   have hfew2:=hrf.few
   subst hlf
   clear hrf hkf hhle
   obtain⟨KT,hKT⟩:∃KT,KT=tl name2::pRnd (fs.map (kdAt hh w0)):=⟨_,rfl⟩
   have HKT:Hid (tok f w0 (nodeC kind2 pos2 n2 m2 name2 (.slice ko2 fs.length kc2)).toList=KT):=by show _=_;rw[hKT];exact hT
   clear hT
   rcases Nat.eq_zero_or_pos idx with h0|h0
   ·subst h0
    simp only[Nat.zero_mul,Nat.add_zero,Nat.zero_add] at e0 e1 e2 e3 e4 e5 e6 e7 e8 e9 e10
    have st:pRest [44] (us.map (kdAt f w0)) 0=KT++(pRest [44] (us.map (kdAt f w0)) (0+1)):=by rw[pRest_zero HX.out.2.2];exact congrArg (· ++_) HKT.out
    have HE:Hid (ts++([]++(KT++pRest [44] (us.map (kdAt f w0)) (0+1)))=([99,111,112,121]::([101,110,117,109]::(tl name::(X0++([[123]])))))++pSep [44] (us.map (kdAt f w0))):=by show _=_;rw[←HT.out,st];simp
    by_cases hz:fs.length=0
    ·have q:=((Q.out.as (rest':=tl name2::(pRest [44] (us.map (kdAt f w0)) (0+1)++[[125]])) (by rw[st,hKT];simp[pRnd,hz])).box (nodeC kind2 pos2 n2 m2 name2 (.slice ko2 fs.length kc2)))
     have HE2:Hid (ts++([tl name2]++pRest [44] (us.map (kdAt f w0)) (0+1))=([99,111,112,121]::([101,110,117,109]::(tl name::(X0++([[123]])))))++pSep [44] (us.map (kdAt f w0))):=by show _=_;rw[←HE.out,hKT];simp[pRnd,hz]
     clear st hKT
     have F:=q.f1
     have hzI:¬(0:Int)<(fs.length:Int):=by omega
     clear hz
     go_wp2_with (first|(go_at_call 33;refine q.put ?_;clear q F;intro w2 q;have F:=q.f1))
     go_roundg (us.length - (0+1))
     case measure=>rw[HG.out];omega
     case rel=>exact⟨0+1,_,rfl,by go_num,hlt,(by show _=_;have:=HE2.out;simpa using this),q.pop⟩
    ·have q:=((Q.out.as (rest':=tl name2::([40]::(pSep [44] (fs.map (kdAt hh w0))++([41]::(pRest [44] (us.map (kdAt f w0)) (0+1)++[[125]]))))) (by rw[st,hKT];simp[pRnd,hz,pRow])).box (nodeC kind2 pos2 n2 m2 name2 (.slice ko2 fs.length kc2)))
     have HE2:Hid (ts++([tl name2]++[[40]]++(pSep [44] (fs.map (kdAt hh w0)))++[[41]]++pRest [44] (us.map (kdAt f w0)) (0+1))=([99,111,112,121]::([101,110,117,109]::(tl name::(X0++([[123]])))))++pSep [44] (us.map (kdAt f w0))):=by show _=_;rw[←HE.out,hKT];simp[pRnd,hz,pRow]
     clear st hKT
     have F:=q.f1
     have hzI:(0:Int)<(fs.length:Int):=by omega
     clear hz
     obtain⟨ob,hob⟩:∃ob,ob=wr.heap.size:=⟨_,rfl⟩
     go_wp2_with (first|(go_at_call 33;refine q.put ?_;clear q F;intro w2 q;have F:=q.f1))
     rw[←hob] at q F⊢
     clear hob
     go_loopg [95] fs.length (fun gg u wr=>∃(idxi:Nat) (tsi:List (List UInt8)),gg=fs.length - idxi∧u=.int .i64 idxi∧idxi≤fs.length∧Hid (tsi++pRest [44] (fs.map (kdAt hh w0)) idxi=(ts++[]++[tl name2,[40]])++pSep [44] (fs.map (kdAt hh w0)))∧Hid (Sw B w0 w wb bs tsi (pRest [44] (fs.map (kdAt hh w0)) idxi++([41]::(pRest [44] (us.map (kdAt f w0)) (0+1)++[[125]]))) wr [(ob,(nodeC kind2 pos2 n2 m2 name2 (.slice ko2 fs.length kc2))),(nb,(nodeC 3 pos 1 m name (.slice (some ⟨g,0,none⟩) (us.length+1) (0+1))))]))
     case atStart=>exact⟨0,_,rfl,rfl,Nat.zero_le _,(by show _=_;simp[pRest]),q⟩
     case round=>
      clear q F
      obtain⟨idxi,tsi,hgki,rfl,hidxi,HTi,Qi⟩:=hrel
      have HGi:Hid (gk=fs.length - idxi):=hgki
      clear hgki
      by_cases hlti:idxi<fs.length
      ·have hltIi:(idxi:Int)<(fs.length:Int):=by omega
       obtain⟨xi,hxi⟩:∃xi,fs[idxi]? =some xi:=⟨_,List.getElem?_eq_getElem hlti⟩
       obtain⟨gxi,oxi,haxi,hgBi,hcelli⟩:=HL2.out.1.cell idxi xi hxi
       have hmemi:=List.mem_of_getElem? hxi
       obtain⟨kind2i,pos2i,n2i,m2i,name2i,ko2i,kl2i,kc2i,rfl,-,-⟩:=(HL2.out.1.all xi hmemi).fields
       have HXi:Hid (Nw B w0 hh (nodeC kind2i pos2i n2i m2i name2i (.slice ko2i kl2i kc2i)).toList∧labOf (nodeC kind2i pos2i n2i m2i name2i (.slice ko2i kl2i kc2i)).toList=5∧(fs.map (kdAt hh w0))[idxi]? =some (kdAt hh w0 (nodeC kind2i pos2i n2i m2i name2i (.slice ko2i kl2i kc2i)).toList)):=⟨HL2.out.1.all _ hmemi,HL2.out.2.1 _ hmemi,by rw[List.getElem?_map,hxi];rfl⟩
       have lifti:∀j,j<11→wr.cell? ⟨gxi,oxi+idxi*11+j,none⟩=(nodeC kind2i pos2i n2i m2i name2i (.slice ko2i kl2i kc2i)).toList[j]? :=fun j hj=>(Qi.out.wr.bel.cell (p:=⟨gxi,oxi+idxi*11+j,none⟩) hgBi).trans (hcelli j hj)
       have lgxi:gxi<wr.heap.size:=Nat.lt_of_lt_of_le hgBi Qi.out.wr.base
       subst haxi
       have e0i:=lifti 0 (by decide)
       have e1i:=lifti 1 (by decide)
       have e2i:=lifti 2 (by decide)
       have e3i:=lifti 3 (by decide)
       have e4i:=lifti 4 (by decide)
       have e5i:=lifti 5 (by decide)
       have e6i:=lifti 6 (by decide)
       have e7i:=lifti 7 (by decide)
       have e8i:=lifti 8 (by decide)
       have e9i:=lifti 9 (by decide)
       have e10i:=lifti 10 (by decide)
       simp only[Nat.add_zero,Nat.zero_add] at e0i e1i e2i e3i e4i e5i e6i e7i e8i e9i e10i
       clear lifti hcelli hxi hmemi
       obtain⟨k3,p3,a3,b3,s3,o3,l3,c3,g3,T,hko,hkl2,HW',HC',hT⟩:=field5_open HRh.out HXi.out.1 HXi.out.2.1
       subst hko hkl2
       have HW:Hid (Wc B w0 wb 76 (nodeC k3 p3 a3 b3 s3 (.slice o3 l3 c3)) T):=HW'
       have HC:Hid (∀W,Below B w0 W→B≤W.heap.size→g3<W.heap.size∧∀j,j<11→W.cell? ⟨g3,0*11+j,none⟩=(nodeC k3 p3 a3 b3 s3 (.slice o3 l3 c3)).toList[j]?):=HC'
       clear HW' HC'
       have lg2:=(HC.out _ Qi.out.wr.bel Qi.out.wr.base).1
       have G3:=kid0 (HC.out _ Qi.out.wr.bel Qi.out.wr.base).2
       obtain⟨KTi,hKTi⟩:∃KTi,KTi=T:=⟨_,rfl⟩
       have HKTi:Hid (tok hh w0 (nodeC kind2i pos2i n2i m2i name2i (.slice (some ⟨g3,0,none⟩) 1 kc2i)).toList=KTi):=by show _=_;rw[hKTi];exact hT
       clear hT
       rcases Nat.eq_zero_or_pos idxi with h0i|h0i
       ·subst h0i
        simp only[Nat.zero_mul,Nat.add_zero,Nat.zero_add] at e0i e1i e2i e3i e4i e5i e6i e7i e8i e9i e10i
        have sti:pRest [44] (fs.map (kdAt hh w0)) 0=KTi++(pRest [44] (fs.map (kdAt hh w0)) (0+1)):=by rw[pRest_zero HXi.out.2.2];exact congrArg (· ++_) HKTi.out
        have HEi:Hid (tsi++([]++(KTi++pRest [44] (fs.map (kdAt hh w0)) (0+1)))=(ts++[]++[tl name2,[40]])++pSep [44] (fs.map (kdAt hh w0))):=by show _=_;rw[←HTi.out,sti];simp
        have q:=((Qi.out.as (rest':=T++(pRest [44] (fs.map (kdAt hh w0)) (0+1)++([41]::(pRest [44] (us.map (kdAt f w0)) (0+1)++[[125]])))) (by rw[sti,hKTi];simp)).box (nodeC kind2i pos2i n2i m2i name2i (.slice (some ⟨g3,0,none⟩) 1 kc2i)))
        have HE2i:Hid (tsi++((T)++pRest [44] (fs.map (kdAt hh w0)) (0+1))=(ts++[]++[tl name2,[40]])++pSep [44] (fs.map (kdAt hh w0))):=by show _=_;rw[←HEi.out,hKTi];simp
        clear sti hKTi
        have F:=q.f1
        go_wp2_with (first
         |(go_at_call 76;refine q.go (fun a1 a2 a3=>HW.out a1 a2 a3) ?_;clear q F lg2 G3;intro w2 q;have F:=q.f1;have lg2:=(HC.out _ q.wr.bel q.wr.base).1;have G3:=kid0 (HC.out _ q.wr.bel q.wr.base).2)
         |(go_at_call 33;refine q.put ?_;clear q F lg2 G3;intro w2 q;have F:=q.f1;have lg2:=(HC.out _ q.wr.bel q.wr.base).1;have G3:=kid0 (HC.out _ q.wr.bel q.wr.base).2))
        go_roundg (fs.length - (0+1))
        case measure=>rw[HGi.out];omega
        case rel=>exact⟨0+1,_,rfl,by go_num,hlti,(by show _=_;have:=HE2i.out;simpa using this),q.pop⟩
       ·have hIi:(0:Int)<(idxi:Int):=by omega
        have sti:pRest [44] (fs.map (kdAt hh w0)) idxi=[44]::(KTi++(pRest [44] (fs.map (kdAt hh w0)) (idxi+1))):=by rw[pRest_succ h0i HXi.out.2.2];exact congrArg (fun z=>[44]::(z++_)) HKTi.out
        have HEi:Hid (tsi++([[44]]++(KTi++pRest [44] (fs.map (kdAt hh w0)) (idxi+1)))=(ts++[]++[tl name2,[40]])++pSep [44] (fs.map (kdAt hh w0))):=by show _=_;rw[←HTi.out,sti];simp
        have q:=((Qi.out.as (rest':=[44]::(T++(pRest [44] (fs.map (kdAt hh w0)) (idxi+1)++([41]::(pRest [44] (us.map (kdAt f w0)) (0+1)++[[125]]))))) (by rw[sti,hKTi];simp)).box (nodeC kind2i pos2i n2i m2i name2i (.slice (some ⟨g3,0,none⟩) 1 kc2i)))
        have HE2i:Hid (tsi++([[44]]++(T)++pRest [44] (fs.map (kdAt hh w0)) (idxi+1))=(ts++[]++[tl name2,[40]])++pSep [44] (fs.map (kdAt hh w0))):=by show _=_;rw[←HEi.out,hKTi];simp
        clear sti hKTi
        have F:=q.f1
        go_wp2_with (first
         |(go_at_call 76;refine q.go (fun a1 a2 a3=>HW.out a1 a2 a3) ?_;clear q F lg2 G3;intro w2 q;have F:=q.f1;have lg2:=(HC.out _ q.wr.bel q.wr.base).1;have G3:=kid0 (HC.out _ q.wr.bel q.wr.base).2)
         |(go_at_call 33;refine q.put ?_;clear q F lg2 G3;intro w2 q;have F:=q.f1;have lg2:=(HC.out _ q.wr.bel q.wr.base).1;have G3:=kid0 (HC.out _ q.wr.bel q.wr.base).2))
        go_roundg (fs.length - (idxi+1))
        case measure=>rw[HGi.out];omega
        case rel=>exact⟨idxi+1,_,rfl,by go_num,hlti,(by show _=_;have:=HE2i.out;simpa using this),q.pop⟩
      ·have hltIi:¬(idxi:Int)<(fs.length:Int):=by omega
       obtain rfl:idxi=fs.length:=by omega
       have ei:pRest [44] (fs.map (kdAt hh w0)) fs.length=[]:=by have:=pRest_end (s:=[44]) (ks:=(fs.map (kdAt hh w0)));rwa [List.length_map] at this
       have q:=Qi.out.as (rest':=([41]::(pRest [44] (us.map (kdAt f w0)) (0+1)++[[125]]))) (by rw[ei];rfl)
       have HEi:Hid (tsi=(ts++[]++[tl name2,[40]])++pSep [44] (fs.map (kdAt hh w0))):=by show _=_;rw[←HTi.out,ei,List.append_nil]
       clear ei
       have F:=q.f1
       go_wp2_with (go_at_call 33;refine q.put ?_;clear q F;intro w3 q;have F:=q.f1)
       go_roundg (us.length - (0+1))
       case measure=>rw[HG.out];omega
       case rel=>exact⟨0+1,tsi++[[41]],rfl,by go_num,hlt,(by show _=_;rw[HEi.out];have:=HE2.out;simpa using this),q.pop⟩
   ·have hI:(0:Int)<(idx:Int):=by omega
    have st:pRest [44] (us.map (kdAt f w0)) idx=[44]::(KT++(pRest [44] (us.map (kdAt f w0)) (idx+1))):=by rw[pRest_succ h0 HX.out.2.2];exact congrArg (fun z=>[44]::(z++_)) HKT.out
    have HE:Hid (ts++([[44]]++(KT++pRest [44] (us.map (kdAt f w0)) (idx+1)))=([99,111,112,121]::([101,110,117,109]::(tl name::(X0++([[123]])))))++pSep [44] (us.map (kdAt f w0))):=by show _=_;rw[←HT.out,st];simp
    by_cases hz:fs.length=0
    ·have q:=((Q.out.as (rest':=[44]::(tl name2::(pRest [44] (us.map (kdAt f w0)) (idx+1)++[[125]]))) (by rw[st,hKT];simp[pRnd,hz])).box (nodeC kind2 pos2 n2 m2 name2 (.slice ko2 fs.length kc2)))
     have HE2:Hid (ts++([[44]]++[tl name2]++pRest [44] (us.map (kdAt f w0)) (idx+1))=([99,111,112,121]::([101,110,117,109]::(tl name::(X0++([[123]])))))++pSep [44] (us.map (kdAt f w0))):=by show _=_;rw[←HE.out,hKT];simp[pRnd,hz]
     clear st hKT
     have F:=q.f1
     have hzI:¬(0:Int)<(fs.length:Int):=by omega
     clear hz
     go_wp2_with (first|(go_at_call 33;refine q.put ?_;clear q F;intro w2 q;have F:=q.f1))
     go_roundg (us.length - (idx+1))
     case measure=>rw[HG.out];omega
     case rel=>exact⟨idx+1,_,rfl,by go_num,hlt,(by show _=_;have:=HE2.out;simpa using this),q.pop⟩
    ·have q:=((Q.out.as (rest':=[44]::(tl name2::([40]::(pSep [44] (fs.map (kdAt hh w0))++([41]::(pRest [44] (us.map (kdAt f w0)) (idx+1)++[[125]])))))) (by rw[st,hKT];simp[pRnd,hz,pRow])).box (nodeC kind2 pos2 n2 m2 name2 (.slice ko2 fs.length kc2)))
     have HE2:Hid (ts++([[44]]++[tl name2]++[[40]]++(pSep [44] (fs.map (kdAt hh w0)))++[[41]]++pRest [44] (us.map (kdAt f w0)) (idx+1))=([99,111,112,121]::([101,110,117,109]::(tl name::(X0++([[123]])))))++pSep [44] (us.map (kdAt f w0))):=by show _=_;rw[←HE.out,hKT];simp[pRnd,hz,pRow]
     clear st hKT
     have F:=q.f1
     have hzI:(0:Int)<(fs.length:Int):=by omega
     clear hz
     obtain⟨ob,hob⟩:∃ob,ob=wr.heap.size:=⟨_,rfl⟩
     go_wp2_with (first|(go_at_call 33;refine q.put ?_;clear q F;intro w2 q;have F:=q.f1))
     rw[←hob] at q F⊢
     clear hob
     go_loopg [95] fs.length (fun gg u wr=>∃(idxi:Nat) (tsi:List (List UInt8)),gg=fs.length - idxi∧u=.int .i64 idxi∧idxi≤fs.length∧Hid (tsi++pRest [44] (fs.map (kdAt hh w0)) idxi=(ts++[[44]]++[tl name2,[40]])++pSep [44] (fs.map (kdAt hh w0)))∧Hid (Sw B w0 w wb bs tsi (pRest [44] (fs.map (kdAt hh w0)) idxi++([41]::(pRest [44] (us.map (kdAt f w0)) (idx+1)++[[125]]))) wr [(ob,(nodeC kind2 pos2 n2 m2 name2 (.slice ko2 fs.length kc2))),(nb,(nodeC 3 pos 1 m name (.slice (some ⟨g,0,none⟩) (us.length+1) (0+1))))]))
     case atStart=>exact⟨0,_,rfl,rfl,Nat.zero_le _,(by show _=_;simp[pRest]),q⟩
     case round=>
      clear q F
      obtain⟨idxi,tsi,hgki,rfl,hidxi,HTi,Qi⟩:=hrel
      have HGi:Hid (gk=fs.length - idxi):=hgki
      clear hgki
      by_cases hlti:idxi<fs.length
      ·have hltIi:(idxi:Int)<(fs.length:Int):=by omega
       obtain⟨xi,hxi⟩:∃xi,fs[idxi]? =some xi:=⟨_,List.getElem?_eq_getElem hlti⟩
       obtain⟨gxi,oxi,haxi,hgBi,hcelli⟩:=HL2.out.1.cell idxi xi hxi
       have hmemi:=List.mem_of_getElem? hxi
       obtain⟨kind2i,pos2i,n2i,m2i,name2i,ko2i,kl2i,kc2i,rfl,-,-⟩:=(HL2.out.1.all xi hmemi).fields
       have HXi:Hid (Nw B w0 hh (nodeC kind2i pos2i n2i m2i name2i (.slice ko2i kl2i kc2i)).toList∧labOf (nodeC kind2i pos2i n2i m2i name2i (.slice ko2i kl2i kc2i)).toList=5∧(fs.map (kdAt hh w0))[idxi]? =some (kdAt hh w0 (nodeC kind2i pos2i n2i m2i name2i (.slice ko2i kl2i kc2i)).toList)):=⟨HL2.out.1.all _ hmemi,HL2.out.2.1 _ hmemi,by rw[List.getElem?_map,hxi];rfl⟩
       have lifti:∀j,j<11→wr.cell? ⟨gxi,oxi+idxi*11+j,none⟩=(nodeC kind2i pos2i n2i m2i name2i (.slice ko2i kl2i kc2i)).toList[j]? :=fun j hj=>(Qi.out.wr.bel.cell (p:=⟨gxi,oxi+idxi*11+j,none⟩) hgBi).trans (hcelli j hj)
       have lgxi:gxi<wr.heap.size:=Nat.lt_of_lt_of_le hgBi Qi.out.wr.base
       subst haxi
       have e0i:=lifti 0 (by decide)
       have e1i:=lifti 1 (by decide)
       have e2i:=lifti 2 (by decide)
       have e3i:=lifti 3 (by decide)
       have e4i:=lifti 4 (by decide)
       have e5i:=lifti 5 (by decide)
       have e6i:=lifti 6 (by decide)
       have e7i:=lifti 7 (by decide)
       have e8i:=lifti 8 (by decide)
       have e9i:=lifti 9 (by decide)
       have e10i:=lifti 10 (by decide)
       simp only[Nat.add_zero,Nat.zero_add] at e0i e1i e2i e3i e4i e5i e6i e7i e8i e9i e10i
       clear lifti hcelli hxi hmemi
       obtain⟨k3,p3,a3,b3,s3,o3,l3,c3,g3,T,hko,hkl2,HW',HC',hT⟩:=field5_open HRh.out HXi.out.1 HXi.out.2.1
       subst hko hkl2
       have HW:Hid (Wc B w0 wb 76 (nodeC k3 p3 a3 b3 s3 (.slice o3 l3 c3)) T):=HW'
       have HC:Hid (∀W,Below B w0 W→B≤W.heap.size→g3<W.heap.size∧∀j,j<11→W.cell? ⟨g3,0*11+j,none⟩=(nodeC k3 p3 a3 b3 s3 (.slice o3 l3 c3)).toList[j]?):=HC'
       clear HW' HC'
       have lg2:=(HC.out _ Qi.out.wr.bel Qi.out.wr.base).1
       have G3:=kid0 (HC.out _ Qi.out.wr.bel Qi.out.wr.base).2
       obtain⟨KTi,hKTi⟩:∃KTi,KTi=T:=⟨_,rfl⟩
       have HKTi:Hid (tok hh w0 (nodeC kind2i pos2i n2i m2i name2i (.slice (some ⟨g3,0,none⟩) 1 kc2i)).toList=KTi):=by show _=_;rw[hKTi];exact hT
       clear hT
       rcases Nat.eq_zero_or_pos idxi with h0i|h0i
       ·subst h0i
        simp only[Nat.zero_mul,Nat.add_zero,Nat.zero_add] at e0i e1i e2i e3i e4i e5i e6i e7i e8i e9i e10i
        have sti:pRest [44] (fs.map (kdAt hh w0)) 0=KTi++(pRest [44] (fs.map (kdAt hh w0)) (0+1)):=by rw[pRest_zero HXi.out.2.2];exact congrArg (· ++_) HKTi.out
        have HEi:Hid (tsi++([]++(KTi++pRest [44] (fs.map (kdAt hh w0)) (0+1)))=(ts++[[44]]++[tl name2,[40]])++pSep [44] (fs.map (kdAt hh w0))):=by show _=_;rw[←HTi.out,sti];simp
        have q:=((Qi.out.as (rest':=T++(pRest [44] (fs.map (kdAt hh w0)) (0+1)++([41]::(pRest [44] (us.map (kdAt f w0)) (idx+1)++[[125]])))) (by rw[sti,hKTi];simp)).box (nodeC kind2i pos2i n2i m2i name2i (.slice (some ⟨g3,0,none⟩) 1 kc2i)))
        have HE2i:Hid (tsi++((T)++pRest [44] (fs.map (kdAt hh w0)) (0+1))=(ts++[[44]]++[tl name2,[40]])++pSep [44] (fs.map (kdAt hh w0))):=by show _=_;rw[←HEi.out,hKTi];simp
        clear sti hKTi
        have F:=q.f1
        go_wp2_with (first
         |(go_at_call 76;refine q.go (fun a1 a2 a3=>HW.out a1 a2 a3) ?_;clear q F lg2 G3;intro w2 q;have F:=q.f1;have lg2:=(HC.out _ q.wr.bel q.wr.base).1;have G3:=kid0 (HC.out _ q.wr.bel q.wr.base).2)
         |(go_at_call 33;refine q.put ?_;clear q F lg2 G3;intro w2 q;have F:=q.f1;have lg2:=(HC.out _ q.wr.bel q.wr.base).1;have G3:=kid0 (HC.out _ q.wr.bel q.wr.base).2))
        go_roundg (fs.length - (0+1))
        case measure=>rw[HGi.out];omega
        case rel=>exact⟨0+1,_,rfl,by go_num,hlti,(by show _=_;have:=HE2i.out;simpa using this),q.pop⟩
       ·have hIi:(0:Int)<(idxi:Int):=by omega
        have sti:pRest [44] (fs.map (kdAt hh w0)) idxi=[44]::(KTi++(pRest [44] (fs.map (kdAt hh w0)) (idxi+1))):=by rw[pRest_succ h0i HXi.out.2.2];exact congrArg (fun z=>[44]::(z++_)) HKTi.out
        have HEi:Hid (tsi++([[44]]++(KTi++pRest [44] (fs.map (kdAt hh w0)) (idxi+1)))=(ts++[[44]]++[tl name2,[40]])++pSep [44] (fs.map (kdAt hh w0))):=by show _=_;rw[←HTi.out,sti];simp
        have q:=((Qi.out.as (rest':=[44]::(T++(pRest [44] (fs.map (kdAt hh w0)) (idxi+1)++([41]::(pRest [44] (us.map (kdAt f w0)) (idx+1)++[[125]]))))) (by rw[sti,hKTi];simp)).box (nodeC kind2i pos2i n2i m2i name2i (.slice (some ⟨g3,0,none⟩) 1 kc2i)))
        have HE2i:Hid (tsi++([[44]]++(T)++pRest [44] (fs.map (kdAt hh w0)) (idxi+1))=(ts++[[44]]++[tl name2,[40]])++pSep [44] (fs.map (kdAt hh w0))):=by show _=_;rw[←HEi.out,hKTi];simp
        clear sti hKTi
        have F:=q.f1
        go_wp2_with (first
         |(go_at_call 76;refine q.go (fun a1 a2 a3=>HW.out a1 a2 a3) ?_;clear q F lg2 G3;intro w2 q;have F:=q.f1;have lg2:=(HC.out _ q.wr.bel q.wr.base).1;have G3:=kid0 (HC.out _ q.wr.bel q.wr.base).2)
         |(go_at_call 33;refine q.put ?_;clear q F lg2 G3;intro w2 q;have F:=q.f1;have lg2:=(HC.out _ q.wr.bel q.wr.base).1;have G3:=kid0 (HC.out _ q.wr.bel q.wr.base).2))
        go_roundg (fs.length - (idxi+1))
        case measure=>rw[HGi.out];omega
        case rel=>exact⟨idxi+1,_,rfl,by go_num,hlti,(by show _=_;have:=HE2i.out;simpa using this),q.pop⟩
      ·have hltIi:¬(idxi:Int)<(fs.length:Int):=by omega
       obtain rfl:idxi=fs.length:=by omega
       have ei:pRest [44] (fs.map (kdAt hh w0)) fs.length=[]:=by have:=pRest_end (s:=[44]) (ks:=(fs.map (kdAt hh w0)));rwa [List.length_map] at this
       have q:=Qi.out.as (rest':=([41]::(pRest [44] (us.map (kdAt f w0)) (idx+1)++[[125]]))) (by rw[ei];rfl)
       have HEi:Hid (tsi=(ts++[[44]]++[tl name2,[40]])++pSep [44] (fs.map (kdAt hh w0))):=by show _=_;rw[←HTi.out,ei,List.append_nil]
       clear ei
       have F:=q.f1
       go_wp2_with (go_at_call 33;refine q.put ?_;clear q F;intro w3 q;have F:=q.f1)
       go_roundg (us.length - (idx+1))
       case measure=>rw[HG.out];omega
       case rel=>exact⟨idx+1,tsi++[[41]],rfl,by go_num,hlt,(by show _=_;rw[HEi.out];have:=HE2.out;simpa using this),q.pop⟩
  ·have hltI:¬(idx:Int)<(us.length:Int):=by omega
   obtain rfl:idx=us.length:=by omega
   have e:pRest [44] (us.map (kdAt f w0)) us.length=[]:=by have:=pRest_end (s:=[44]) (ks:=(us.map (kdAt f w0)));rwa [List.length_map] at this
   have q:=Q.out.as (rest':=[[125]]) (by rw[e];rfl)
   have HE:Hid (ts=([99,111,112,121]::([101,110,117,109]::(tl name::(X0++([[123]])))))++pSep [44] (us.map (kdAt f w0))):=by show _=_;rw[←HT.out,e,List.append_nil]
   clear e
   have F:=q.f1
   go_wp2_with (go_at_call 33;refine q.put ?_;clear q F;intro w3 q;have F:=q.f1)
   go_end0
   exact q.done (by rw[HE.out];simp)
end
end Go.Proofs.YtagdihffmjopaaaGreatDoor
