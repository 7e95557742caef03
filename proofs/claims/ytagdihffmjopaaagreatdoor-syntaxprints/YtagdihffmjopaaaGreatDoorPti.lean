/- The document's writer: type parameters. -/
import Derived.Test.YtagdihffmjopaaaGreatDoorPtg
namespace Go.Proofs.YtagdihffmjopaaaGreatDoor
set_option linter.all false
open Go.RowKit
section
variable{B:Nat} {w0 w:World} {wb f:Nat} {bs:List UInt8} {kind pos n m:Int} {name:ByteArray} {ko:Option Addr} {kl kc:Nat}
def iR (ks:List Kd) (i:Nat):List (List UInt8):=if i=0 then pWhen (ks.length !=0) [[58]]++pSep [43] ks else pMore [43] (ks.drop i)
theorem iR_zero {k:Kd} {ks:List Kd} (h:ks[0]? =some k):iR ks 0=[58]::(k.t++iR ks (0+1)):=by
 cases ks with
 |nil=>simp at h
 |cons a r=>
  obtain rfl:a=k:=by simpa using h
  rfl
theorem iR_succ {k:Kd} {ks:List Kd} {i:Nat} (hi:0<i) (h:ks[i]? =some k):iR ks i=[43]::(k.t++iR ks (i+1)):=by
 unfold iR
 rw[if_neg (by omega),if_neg (by omega)]
 have e:ks.drop i=k::ks.drop (i+1):=by
  rw[List.drop_eq_getElem_cons (List.getElem?_eq_some_iff.1 h).1,(List.getElem?_eq_some_iff.1 h).2]
 rw[e]
 rfl
theorem iR_end {ks:List Kd}:iR ks ks.length=[]:=by
 unfold iR
 split
 ·rename_i h
  rw[List.eq_nil_of_length_eq_zero h]
  rfl
 ·simp[pMore]
theorem grow_open (hx:Nw B w0 f (nodeC kind pos n m name (.slice ko kl kc)).toList) (h1:labOf (nodeC kind pos n m name (.slice ko kl kc)).toList=10∨labOf (nodeC kind pos n m name (.slice ko kl kc)).toList=11):∃(hh:Nat) (vsb:List (List Value)),hh≤f∧NR B w0 hh ko vsb∧(∀x∈vsb,noK (labOf x))∧vsb.length=kl∧tok f w0 (nodeC kind pos n m name (.slice ko kl kc)).toList=tl name::iR (vsb.map (kdAt hh w0)) 0:=by
 cases f with
 |zero=>exact absurd hx (fun x=>x)
 |succ f=>
  obtain⟨vs,hl,hr,hg,ht,-,hc⟩:=hx.opened
  rcases h1 with h1|h1
  ·obtain rfl:=lab_is h1 (by omega)
   exact⟨f,vs,Nat.le_succ f,hr,fun x hx=>by rw[hg.glife rfl _ (List.mem_map.2 ⟨x,hx,rfl⟩)];unfold noK;omega,hl,by rw[ht];rfl⟩
  ·obtain rfl:=lab_is h1 (by omega)
   exact⟨f,vs,Nat.le_succ f,hr,fun x hx=>by rcases hg.gtype rfl _ (List.mem_map.2 ⟨x,hx,rfl⟩) with h|h<;>(rw[h];unfold noK;omega),hl,by rw[ht];rfl⟩
set_option maxRecDepth 100000 in
set_option maxHeartbeats 2000000 in
theorem e75_9b (hRs:∀g,g≤f→RN B w0 wb g) (ht:Tab B w0) (hz0:0<kl) (hx:Nw B w0 (f+1) (nodeC 9 pos n m name (.slice ko kl kc)).toList):Wc B w0 wb 75 (nodeC 9 pos n m name (.slice ko kl kc)) (tok (f+1) w0 (nodeC 9 pos n m name (.slice ko kl kc)).toList):=by
 intro w bs h hne hf
 have hR:RN B w0 wb f:=@hRs f (Nat.le_refl f)
 have hcap:=hx.cap
 obtain⟨vs,hkl,hr,hg,htok,hs,hc⟩:=hx.opened
 rw[htok] at hf⊢
 clear htok hx
 have hk:∀x∈vs,labOf x=10∨labOf x=11:=fun x hx=>(hg.gens rfl).2 _ (List.mem_map.2 ⟨x,hx,rfl⟩)
 have hfew:=hr.few
 obtain⟨us,hus⟩:∃us,us=vs:=⟨_,rfl⟩
 subst hus
 obtain⟨x0,hx0⟩:∃x,us[0]? =some x:=⟨_,List.getElem?_eq_getElem (by omega)⟩
 obtain⟨g,o,rfl,-,-⟩:=hr.cell 0 x0 hx0
 have e:asm 9 n m (name:ByteArray).data.toList (us.map (kdAt f w0))=[60]::(pSep [44] (us.map (kdAt f w0))++[[62]]):=by
  show pAng (us.map (kdAt f w0))=_;rw[pAng,if_neg (by rw[List.length_map];omega)];rfl
 rw[e] at hf⊢
 clear e
 have q:=(Sw.start h hne hf).box (nodeC 9 pos n m name (.slice (some ⟨g,o,none⟩) kl kc))
 have HL:Hid (NR B w0 f (some ⟨g,o,none⟩) us∧(∀x∈us,labOf x=10∨labOf x=11)∧us.length=kl):=⟨hr,hk,hkl⟩
 have HRs:Hid (∀g,g≤f→RN B w0 wb g):=fun g hg=>@hRs g hg
 subst hkl
 have hI0:(0:Int)<(us.length:Int):=by omega
 have hI2:((us.length:Int)==0)=false:=beq_eq_false_iff_ne.2 (by omega)
 clear h hne hf hr hg hc hcap hRs hk hz0 hx0
 have F:=q.f1
 obtain⟨nb,hnb⟩:∃nb,nb=w.heap.size:=⟨_,rfl⟩
 go_enter Tryz.func75,Tryz.ntmps75
 go_wp2_with (first
  |(go_at_call 33;refine q.put ?_;clear q F;intro w2 q;have F:=q.f1))
 rw[←hnb] at q F⊢
 clear hnb
 go_loopg [17] us.length (fun gg u wr=>∃(idx:Nat) (ts:List (List UInt8)),gg=us.length - idx∧u=.int .i64 idx∧idx≤us.length∧Hid (ts++pRest [44] (us.map (kdAt f w0)) idx=[[60]]++pSep [44] (us.map (kdAt f w0)))∧Hid (Sw B w0 w wb bs ts (pRest [44] (us.map (kdAt f w0)) idx++[[62]]) wr [(nb,(nodeC 9 pos n m name (.slice (some ⟨g,o,none⟩) us.length kc)))]))
 case atStart=>exact⟨0,_,rfl,rfl,Nat.zero_le _,(by show _=_;simp[pRest]),q⟩
 case round=>
  clear q F
  obtain⟨idx,ts,hgk,rfl,hidx,HT,Q⟩:=hrel
  have HG:Hid (gk=us.length - idx):=hgk
  clear hgk
  by_cases hlt:idx<us.length
  ·have hltI:(idx:Int)<(us.length:Int):=by omega
   obtain⟨x,hx⟩:∃x,us[idx]? =some x:=⟨_,List.getElem?_eq_getElem hlt⟩
   obtain⟨gx,ox,hax,hgB,hcell⟩:=HL.out.1.cell idx x hx
   have hmem:=List.mem_of_getElem? hx
   obtain⟨kind2,pos2,n2,m2,name2,ko2,kl2,kc2,rfl,-,-⟩:=(HL.out.1.all x hmem).fields
   have HX:Hid (Nw B w0 f (nodeC kind2 pos2 n2 m2 name2 (.slice ko2 kl2 kc2)).toList∧(labOf (nodeC kind2 pos2 n2 m2 name2 (.slice ko2 kl2 kc2)).toList=10∨labOf (nodeC kind2 pos2 n2 m2 name2 (.slice ko2 kl2 kc2)).toList=11)∧(us.map (kdAt f w0))[idx]? =some (kdAt f w0 (nodeC kind2 pos2 n2 m2 name2 (.slice ko2 kl2 kc2)).toList)):=⟨HL.out.1.all _ hmem,HL.out.2.1 _ hmem,by rw[List.getElem?_map,hx];rfl⟩
   have lift:∀j,j<11→wr.cell? ⟨gx,ox+idx*11+j,none⟩=(nodeC kind2 pos2 n2 m2 name2 (.slice ko2 kl2 kc2)).toList[j]? :=fun j hj=>(Q.out.wr.bel.cell (p:=⟨gx,ox+idx*11+j,none⟩) hgB).trans (hcell j hj)
   have lgx:gx<wr.heap.size:=Nat.lt_of_lt_of_le hgB Q.out.wr.base
   obtain⟨rfl,rfl⟩:g=gx∧o=ox:=by simpa using hax
   have e0:=lift 0 (by decide)
   have e1:=lift 1 (by decide)
   have e2:=lift 2 (by decide)
   have e3:=lift 3 (by decide)
   have e4:=lift 4 (by decide)
   have e5:=lift 5 (by decide)
   have e6:=lift 6 (by decide)
   have e7:=lift 7 (by decide)
   have e8:=lift 8 (by decide)
   have e9:=lift 9 (by decide)
   have e10:=lift 10 (by decide)
   simp only[Nat.add_zero,Nat.zero_add] at e0 e1 e2 e3 e4 e5 e6 e7 e8 e9 e10
   clear lift hcell hx hmem
   obtain⟨hh,vsb,hhle,hrb,hnkb,hlb,hT⟩:=grow_open HX.out.1 HX.out.2.1
   have HL2:Hid (NR B w0 hh ko2 vsb∧(∀x∈vsb,noK (labOf x))∧vsb.length=kl2):=⟨hrb,hnkb,hlb⟩
   have HRh:Hid (RN B w0 wb hh):=by have h9:=HRs.out;exact @h9 hh hhle
   have hfew2:=hrb.few
   subst hlb
   clear hrb hnkb hhle
   obtain⟨KT,hKT⟩:∃KT,KT=tl name2::iR (vsb.map (kdAt hh w0)) 0:=⟨_,rfl⟩
   have HKT:Hid (tok f w0 (nodeC kind2 pos2 n2 m2 name2 (.slice ko2 vsb.length kc2)).toList=KT):=by show _=_;rw[hKT];exact hT
   clear hT
   rcases Nat.eq_zero_or_pos idx with h0|h0
   ·subst h0
    simp only[Nat.zero_mul,Nat.add_zero,Nat.zero_add] at e0 e1 e2 e3 e4 e5 e6 e7 e8 e9 e10
    have st:pRest [44] (us.map (kdAt f w0)) 0=KT++(pRest [44] (us.map (kdAt f w0)) (0+1)):=by rw[pRest_zero HX.out.2.2];exact congrArg (· ++_) HKT.out
    have HE:Hid (ts++([]++(KT++pRest [44] (us.map (kdAt f w0)) (0+1)))=[[60]]++pSep [44] (us.map (kdAt f w0))):=by show _=_;rw[←HT.out,st];simp
    have q:=((Q.out.as (rest':=tl name2::(iR (vsb.map (kdAt hh w0)) 0++(pRest [44] (us.map (kdAt f w0)) (0+1)++[[62]]))) (by rw[st,hKT];simp)).box (nodeC kind2 pos2 n2 m2 name2 (.slice ko2 vsb.length kc2)))
    have HE2:Hid (ts++([tl name2]++(iR (vsb.map (kdAt hh w0)) 0)++pRest [44] (us.map (kdAt f w0)) (0+1))=[[60]]++pSep [44] (us.map (kdAt f w0))):=by show _=_;rw[←HE.out,hKT];simp
    clear st hKT
    have F:=q.f1
    obtain⟨ob,hob⟩:∃ob,ob=wr.heap.size:=⟨_,rfl⟩
    go_wp2_with (first|(go_at_call 33;refine q.put ?_;clear q F;intro w2 q;have F:=q.f1))
    rw[←hob] at q F⊢
    clear hob
    go_loopg [33] vsb.length (fun gg u wr=>∃(idxi:Nat) (tsi:List (List UInt8)),gg=vsb.length - idxi∧u=.int .i64 idxi∧idxi≤vsb.length∧Hid (tsi++iR (vsb.map (kdAt hh w0)) idxi=(ts++[]++[tl name2])++iR (vsb.map (kdAt hh w0)) 0)∧Hid (Sw B w0 w wb bs tsi (iR (vsb.map (kdAt hh w0)) idxi++(pRest [44] (us.map (kdAt f w0)) (0+1)++[[62]])) wr [(ob,(nodeC kind2 pos2 n2 m2 name2 (.slice ko2 vsb.length kc2))),(nb,(nodeC 9 pos n m name (.slice (some ⟨g,o,none⟩) us.length kc)))]))
    case atStart=>exact⟨0,_,rfl,rfl,Nat.zero_le _,(by show _=_;simp[iR]),q⟩
    case round=>
     clear q F
     obtain⟨idxi,tsi,hgki,rfl,hidxi,HTi,Qi⟩:=hrel
     have HGi:Hid (gk=vsb.length - idxi):=hgki
     clear hgki
     by_cases hlti:idxi<vsb.length
     ·have hltIi:(idxi:Int)<(vsb.length:Int):=by omega
      obtain⟨xi,hxi⟩:∃xi,vsb[idxi]? =some xi:=⟨_,List.getElem?_eq_getElem hlti⟩
      obtain⟨gxi,oxi,haxi,hgBi,hcelli⟩:=HL2.out.1.cell idxi xi hxi
      have hmemi:=List.mem_of_getElem? hxi
      obtain⟨kind2i,pos2i,n2i,m2i,name2i,ko2i,kl2i,kc2i,rfl,-,-⟩:=(HL2.out.1.all xi hmemi).fields
      have HXi:Hid (Nw B w0 hh (nodeC kind2i pos2i n2i m2i name2i (.slice ko2i kl2i kc2i)).toList∧noK (labOf (nodeC kind2i pos2i n2i m2i name2i (.slice ko2i kl2i kc2i)).toList)∧(vsb.map (kdAt hh w0))[idxi]? =some (kdAt hh w0 (nodeC kind2i pos2i n2i m2i name2i (.slice ko2i kl2i kc2i)).toList)):=⟨HL2.out.1.all _ hmemi,HL2.out.2.1 _ hmemi,by rw[List.getElem?_map,hxi];rfl⟩
      have lifti:∀j,j<11→wr.cell? ⟨gxi,oxi+idxi*11+j,none⟩=(nodeC kind2i pos2i n2i m2i name2i (.slice ko2i kl2i kc2i)).toList[j]? :=fun j hj=>(Qi.out.wr.bel.cell (p:=⟨gxi,oxi+idxi*11+j,none⟩) hgBi).trans (hcelli j hj)
      have lgxi:gxi<wr.heap.size:=Nat.lt_of_lt_of_le hgBi Qi.out.wr.base
      subst haxi
      have e0i:=lifti 0 (by decide)
      have e1i:=lifti 1 (by decide)
      have e2i:=lifti 2 (by decide)
      have e3i:=lifti 3 (by decide)
      have e4i:=lifti 4 (by decide)
      have e5i:=lifti 5 (by decide)
      have e6i:=lifti 6 (by decide)
      have e7i:=lifti 7 (by decide)
      have e8i:=lifti 8 (by decide)
      have e9i:=lifti 9 (by decide)
      have e10i:=lifti 10 (by decide)
      simp only[Nat.add_zero,Nat.zero_add] at e0i e1i e2i e3i e4i e5i e6i e7i e8i e9i e10i
      clear lifti hcelli hxi hmemi
      obtain⟨T,hTe⟩:∃T,T=tok hh w0 (nodeC kind2i pos2i n2i m2i name2i (.slice ko2i kl2i kc2i)).toList:=⟨_,rfl⟩
      have HW:Hid (Wc B w0 wb 76 (nodeC kind2i pos2i n2i m2i name2i (.slice ko2i kl2i kc2i)) T):=fun a1 a2 a3=>by rw[hTe] at a3⊢;exact HRh.out HXi.out.1 HXi.out.2.1 a1 a2 a3
      obtain⟨KTi,hKTi⟩:∃KTi,KTi=T:=⟨_,rfl⟩
      have HKTi:Hid (tok hh w0 (nodeC kind2i pos2i n2i m2i name2i (.slice ko2i kl2i kc2i)).toList=KTi):=by show _=_;rw[hKTi,hTe]
      clear hTe
      rcases Nat.eq_zero_or_pos idxi with h0i|h0i
      ·subst h0i
       simp only[Nat.zero_mul,Nat.add_zero,Nat.zero_add] at e0i e1i e2i e3i e4i e5i e6i e7i e8i e9i e10i
       have sti:iR (vsb.map (kdAt hh w0)) 0=[58]::(KTi++(iR (vsb.map (kdAt hh w0)) (0+1))):=by rw[iR_zero HXi.out.2.2];exact congrArg (fun z=>[58]::(z++_)) HKTi.out
       have HEi:Hid (tsi++([[58]]++(KTi++iR (vsb.map (kdAt hh w0)) (0+1)))=(ts++[]++[tl name2])++iR (vsb.map (kdAt hh w0)) 0):=by show _=_;rw[←HTi.out,sti];simp
       have q:=((Qi.out.as (rest':=[58]::(T++(iR (vsb.map (kdAt hh w0)) (0+1)++(pRest [44] (us.map (kdAt f w0)) (0+1)++[[62]])))) (by rw[sti,hKTi];simp)).box (nodeC kind2i pos2i n2i m2i name2i (.slice ko2i kl2i kc2i)))
       have HE2i:Hid (tsi++([[58]]++(T)++iR (vsb.map (kdAt hh w0)) (0+1))=(ts++[]++[tl name2])++iR (vsb.map (kdAt hh w0)) 0):=by show _=_;rw[←HEi.out,hKTi];simp
       clear sti hKTi
       have F:=q.f1
       go_wp2_with (first
        |(go_at_call 76;refine q.go (fun a1 a2 a3=>HW.out a1 a2 a3) ?_;clear q F;intro w2 q;have F:=q.f1)
        |(go_at_call 33;refine q.put ?_;clear q F;intro w2 q;have F:=q.f1))
       go_roundg (vsb.length - (0+1))
       case measure=>rw[HGi.out];omega
       case rel=>exact⟨0+1,_,rfl,by go_num,hlti,(by show _=_;have:=HE2i.out;simpa using this),q.pop⟩
      ·have hIi:(0:Int)<(idxi:Int):=by omega
       have sti:iR (vsb.map (kdAt hh w0)) idxi=[43]::(KTi++(iR (vsb.map (kdAt hh w0)) (idxi+1))):=by rw[iR_succ h0i HXi.out.2.2];exact congrArg (fun z=>[43]::(z++_)) HKTi.out
       have HEi:Hid (tsi++([[43]]++(KTi++iR (vsb.map (kdAt hh w0)) (idxi+1)))=(ts++[]++[tl name2])++iR (vsb.map (kdAt hh w0)) 0):=by show _=_;rw[←HTi.out,sti];simp
       have q:=((Qi.out.as (rest':=[43]::(T++(iR (vsb.map (kdAt hh w0)) (idxi+1)++(pRest [44] (us.map (kdAt f w0)) (0+1)++[[62]])))) (by rw[sti,hKTi];simp)).box (nodeC kind2i pos2i n2i m2i name2i (.slice ko2i kl2i kc2i)))
       have HE2i:Hid (tsi++([[43]]++(T)++iR (vsb.map (kdAt hh w0)) (idxi+1))=(ts++[]++[tl name2])++iR (vsb.map (kdAt hh w0)) 0):=by show _=_;rw[←HEi.out,hKTi];simp
       clear sti hKTi
       have F:=q.f1
       go_wp2_with (first
        |(go_at_call 76;refine q.go (fun a1 a2 a3=>HW.out a1 a2 a3) ?_;clear q F;intro w2 q;have F:=q.f1)
        |(go_at_call 33;refine q.put ?_;clear q F;intro w2 q;have F:=q.f1))
       go_roundg (vsb.length - (idxi+1))
       case measure=>rw[HGi.out];omega
       case rel=>exact⟨idxi+1,_,rfl,by go_num,hlti,(by show _=_;have:=HE2i.out;simpa using this),q.pop⟩
     ·have hltIi:¬(idxi:Int)<(vsb.length:Int):=by omega
      obtain rfl:idxi=vsb.length:=by omega
      have ei:iR (vsb.map (kdAt hh w0)) vsb.length=[]:=by have:=iR_end (ks:=vsb.map (kdAt hh w0));rwa [List.length_map] at this
      have q:=Qi.out.as (rest':=(pRest [44] (us.map (kdAt f w0)) (0+1)++[[62]])) (by rw[ei];rfl)
      have HEi:Hid (tsi=(ts++[]++[tl name2])++iR (vsb.map (kdAt hh w0)) 0):=by show _=_;rw[←HTi.out,ei,List.append_nil]
      clear ei
      have F:=q.f1
      go_wp2_with fail
      go_roundg (us.length - (0+1))
      case measure=>rw[HG.out];omega
      case rel=>exact⟨0+1,tsi,rfl,by go_num,hlt,(by show _=_;rw[HEi.out];have:=HE2.out;simpa using this),q.pop⟩
   ·have hI:(0:Int)<(idx:Int):=by omega
    have st:pRest [44] (us.map (kdAt f w0)) idx=[44]::(KT++(pRest [44] (us.map (kdAt f w0)) (idx+1))):=by rw[pRest_succ h0 HX.out.2.2];exact congrArg (fun z=>[44]::(z++_)) HKT.out
    have HE:Hid (ts++([[44]]++(KT++pRest [44] (us.map (kdAt f w0)) (idx+1)))=[[60]]++pSep [44] (us.map (kdAt f w0))):=by show _=_;rw[←HT.out,st];simp
    have q:=((Q.out.as (rest':=[44]::(tl name2::(iR (vsb.map (kdAt hh w0)) 0++(pRest [44] (us.map (kdAt f w0)) (idx+1)++[[62]])))) (by rw[st,hKT];simp)).box (nodeC kind2 pos2 n2 m2 name2 (.slice ko2 vsb.length kc2)))
    have HE2:Hid (ts++([[44]]++[tl name2]++(iR (vsb.map (kdAt hh w0)) 0)++pRest [44] (us.map (kdAt f w0)) (idx+1))=[[60]]++pSep [44] (us.map (kdAt f w0))):=by show _=_;rw[←HE.out,hKT];simp
    clear st hKT
    have F:=q.f1
    obtain⟨ob,hob⟩:∃ob,ob=wr.heap.size:=⟨_,rfl⟩
    go_wp2_with (first|(go_at_call 33;refine q.put ?_;clear q F;intro w2 q;have F:=q.f1))
    rw[←hob] at q F⊢
    clear hob
    go_loopg [33] vsb.length (fun gg u wr=>∃(idxi:Nat) (tsi:List (List UInt8)),gg=vsb.length - idxi∧u=.int .i64 idxi∧idxi≤vsb.length∧Hid (tsi++iR (vsb.map (kdAt hh w0)) idxi=(ts++[[44]]++[tl name2])++iR (vsb.map (kdAt hh w0)) 0)∧Hid (Sw B w0 w wb bs tsi (iR (vsb.map (kdAt hh w0)) idxi++(pRest [44] (us.map (kdAt f w0)) (idx+1)++[[62]])) wr [(ob,(nodeC kind2 pos2 n2 m2 name2 (.slice ko2 vsb.length kc2))),(nb,(nodeC 9 pos n m name (.slice (some ⟨g,o,none⟩) us.length kc)))]))
    case atStart=>exact⟨0,_,rfl,rfl,Nat.zero_le _,(by show _=_;simp[iR]),q⟩
    case round=>
     clear q F
     obtain⟨idxi,tsi,hgki,rfl,hidxi,HTi,Qi⟩:=hrel
     have HGi:Hid (gk=vsb.length - idxi):=hgki
     clear hgki
     by_cases hlti:idxi<vsb.length
     ·have hltIi:(idxi:Int)<(vsb.length:Int):=by omega
      obtain⟨xi,hxi⟩:∃xi,vsb[idxi]? =some xi:=⟨_,List.getElem?_eq_getElem hlti⟩
      obtain⟨gxi,oxi,haxi,hgBi,hcelli⟩:=HL2.out.1.cell idxi xi hxi
      have hmemi:=List.mem_of_getElem? hxi
      obtain⟨kind2i,pos2i,n2i,m2i,name2i,ko2i,kl2i,kc2i,rfl,-,-⟩:=(HL2.out.1.all xi hmemi).fields
      have HXi:Hid (Nw B w0 hh (nodeC kind2i pos2i n2i m2i name2i (.slice ko2i kl2i kc2i)).toList∧noK (labOf (nodeC kind2i pos2i n2i m2i name2i (.slice ko2i kl2i kc2i)).toList)∧(vsb.map (kdAt hh w0))[idxi]? =some (kdAt hh w0 (nodeC kind2i pos2i n2i m2i name2i (.slice ko2i kl2i kc2i)).toList)):=⟨HL2.out.1.all _ hmemi,HL2.out.2.1 _ hmemi,by rw[List.getElem?_map,hxi];rfl⟩
      have lifti:∀j,j<11→wr.cell? ⟨gxi,oxi+idxi*11+j,none⟩=(nodeC kind2i pos2i n2i m2i name2i (.slice ko2i kl2i kc2i)).toList[j]? :=fun j hj=>(Qi.out.wr.bel.cell (p:=⟨gxi,oxi+idxi*11+j,none⟩) hgBi).trans (hcelli j hj)
      have lgxi:gxi<wr.heap.size:=Nat.lt_of_lt_of_le hgBi Qi.out.wr.base
      subst haxi
      have e0i:=lifti 0 (by decide)
      have e1i:=lifti 1 (by decide)
      have e2i:=lifti 2 (by decide)
      have e3i:=lifti 3 (by decide)
      have e4i:=lifti 4 (by decide)
      have e5i:=lifti 5 (by decide)
      have e6i:=lifti 6 (by decide)
      have e7i:=lifti 7 (by decide)
      have e8i:=lifti 8 (by decide)
      have e9i:=lifti 9 (by decide)
      have e10i:=lifti 10 (by decide)
      simp only[Nat.add_zero,Nat.zero_add] at e0i e1i e2i e3i e4i e5i e6i e7i e8i e9i e10i
      clear lifti hcelli hxi hmemi
      obtain⟨T,hTe⟩:∃T,T=tok hh w0 (nodeC kind2i pos2i n2i m2i name2i (.slice ko2i kl2i kc2i)).toList:=⟨_,rfl⟩
      have HW:Hid (Wc B w0 wb 76 (nodeC kind2i pos2i n2i m2i name2i (.slice ko2i kl2i kc2i)) T):=fun a1 a2 a3=>by rw[hTe] at a3⊢;exact HRh.out HXi.out.1 HXi.out.2.1 a1 a2 a3
      obtain⟨KTi,hKTi⟩:∃KTi,KTi=T:=⟨_,rfl⟩
      have HKTi:Hid (tok hh w0 (nodeC kind2i pos2i n2i m2i name2i (.slice ko2i kl2i kc2i)).toList=KTi):=by show _=_;rw[hKTi,hTe]
      clear hTe
      rcases Nat.eq_zero_or_pos idxi with h0i|h0i
      ·subst h0i
       simp only[Nat.zero_mul,Nat.add_zero,Nat.zero_add] at e0i e1i e2i e3i e4i e5i e6i e7i e8i e9i e10i
       have sti:iR (vsb.map (kdAt hh w0)) 0=[58]::(KTi++(iR (vsb.map (kdAt hh w0)) (0+1))):=by rw[iR_zero HXi.out.2.2];exact congrArg (fun z=>[58]::(z++_)) HKTi.out
       have HEi:Hid (tsi++([[58]]++(KTi++iR (vsb.map (kdAt hh w0)) (0+1)))=(ts++[[44]]++[tl name2])++iR (vsb.map (kdAt hh w0)) 0):=by show _=_;rw[←HTi.out,sti];simp
       have q:=((Qi.out.as (rest':=[58]::(T++(iR (vsb.map (kdAt hh w0)) (0+1)++(pRest [44] (us.map (kdAt f w0)) (idx+1)++[[62]])))) (by rw[sti,hKTi];simp)).box (nodeC kind2i pos2i n2i m2i name2i (.slice ko2i kl2i kc2i)))
       have HE2i:Hid (tsi++([[58]]++(T)++iR (vsb.map (kdAt hh w0)) (0+1))=(ts++[[44]]++[tl name2])++iR (vsb.map (kdAt hh w0)) 0):=by show _=_;rw[←HEi.out,hKTi];simp
       clear sti hKTi
       have F:=q.f1
       go_wp2_with (first
        |(go_at_call 76;refine q.go (fun a1 a2 a3=>HW.out a1 a2 a3) ?_;clear q F;intro w2 q;have F:=q.f1)
        |(go_at_call 33;refine q.put ?_;clear q F;intro w2 q;have F:=q.f1))
       go_roundg (vsb.length - (0+1))
       case measure=>rw[HGi.out];omega
       case rel=>exact⟨0+1,_,rfl,by go_num,hlti,(by show _=_;have:=HE2i.out;simpa using this),q.pop⟩
      ·have hIi:(0:Int)<(idxi:Int):=by omega
       have sti:iR (vsb.map (kdAt hh w0)) idxi=[43]::(KTi++(iR (vsb.map (kdAt hh w0)) (idxi+1))):=by rw[iR_succ h0i HXi.out.2.2];exact congrArg (fun z=>[43]::(z++_)) HKTi.out
       have HEi:Hid (tsi++([[43]]++(KTi++iR (vsb.map (kdAt hh w0)) (idxi+1)))=(ts++[[44]]++[tl name2])++iR (vsb.map (kdAt hh w0)) 0):=by show _=_;rw[←HTi.out,sti];simp
       have q:=((Qi.out.as (rest':=[43]::(T++(iR (vsb.map (kdAt hh w0)) (idxi+1)++(pRest [44] (us.map (kdAt f w0)) (idx+1)++[[62]])))) (by rw[sti,hKTi];simp)).box (nodeC kind2i pos2i n2i m2i name2i (.slice ko2i kl2i kc2i)))
       have HE2i:Hid (tsi++([[43]]++(T)++iR (vsb.map (kdAt hh w0)) (idxi+1))=(ts++[[44]]++[tl name2])++iR (vsb.map (kdAt hh w0)) 0):=by show _=_;rw[←HEi.out,hKTi];simp
       clear sti hKTi
       have F:=q.f1
       go_wp2_with (first
        |(go_at_call 76;refine q.go (fun a1 a2 a3=>HW.out a1 a2 a3) ?_;clear q F;intro w2 q;have F:=q.f1)
        |(go_at_call 33;refine q.put ?_;clear q F;intro w2 q;have F:=q.f1))
       go_roundg (vsb.length - (idxi+1))
       case measure=>rw[HGi.out];omega
       case rel=>exact⟨idxi+1,_,rfl,by go_num,hlti,(by show _=_;have:=HE2i.out;simpa using this),q.pop⟩
     ·have hltIi:¬(idxi:Int)<(vsb.length:Int):=by omega
      obtain rfl:idxi=vsb.length:=by omega
      have ei:iR (vsb.map (kdAt hh w0)) vsb.length=[]:=by have:=iR_end (ks:=vsb.map (kdAt hh w0));rwa [List.length_map] at this
      have q:=Qi.out.as (rest':=(pRest [44] (us.map (kdAt f w0)) (idx+1)++[[62]])) (by rw[ei];rfl)
      have HEi:Hid (tsi=(ts++[[44]]++[tl name2])++iR (vsb.map (kdAt hh w0)) 0):=by show _=_;rw[←HTi.out,ei,List.append_nil]
      clear ei
      have F:=q.f1
      go_wp2_with fail
      go_roundg (us.length - (idx+1))
      case measure=>rw[HG.out];omega
      case rel=>exact⟨idx+1,tsi,rfl,by go_num,hlt,(by show _=_;rw[HEi.out];have:=HE2.out;simpa using this),q.pop⟩
  ·have hltI:¬(idx:Int)<(us.length:Int):=by omega
   obtain rfl:idx=us.length:=by omega
   have e:pRest [44] (us.map (kdAt f w0)) us.length=[]:=by have:=pRest_end (s:=[44]) (ks:=(us.map (kdAt f w0)));rwa [List.length_map] at this
   have q:=Q.out.as (rest':=[[62]]) (by rw[e];rfl)
   have HE:Hid (ts=[[60]]++pSep [44] (us.map (kdAt f w0))):=by show _=_;rw[←HT.out,e,List.append_nil]
   clear e
   have F:=q.f1
   go_wp2_with (go_at_call 33;refine q.put ?_;clear q F;intro w3 q;have F:=q.f1)
   go_end0
   exact q.done (by rw[HE.out];simp)
set_option maxRecDepth 100000 in
set_option maxHeartbeats 2000000 in
theorem e75_9a (hRs:∀g,g≤f→RN B w0 wb g) (ht:Tab B w0) (hz0:kl=0) (hx:Nw B w0 (f+1) (nodeC 9 pos n m name (.slice ko kl kc)).toList):Wc B w0 wb 75 (nodeC 9 pos n m name (.slice ko kl kc)) (tok (f+1) w0 (nodeC 9 pos n m name (.slice ko kl kc)).toList):=by
 intro w bs h hne hf
 have hR:RN B w0 wb f:=@hRs f (Nat.le_refl f)
 have hcap:=hx.cap
 obtain⟨vs,hkl,hr,hg,htok,hs,hc⟩:=hx.opened
 rw[htok] at hf⊢
 clear htok hx
 obtain rfl:kl=0:=hz0
 have e:asm 9 n m (name:ByteArray).data.toList (vs.map (kdAt f w0))=[]:=by
  show pAng (vs.map (kdAt f w0))=_;rw[pAng,if_pos (by rw[List.length_map];exact hkl)]
 rw[e] at hf⊢
 clear e
 have q:=(Sw.start h hne hf).box (nodeC 9 pos n m name (.slice ko 0 kc))
 clear h hne hf hr hg hc hkl hcap hRs
 have F:=q.f1
 go_enter Tryz.func75,Tryz.ntmps75
 go_wp2_with fail
 all_goals(go_end0;exact q.done (rfl))
theorem gens75 (hRs:∀g,g≤f→RN B w0 wb g) (ht:Tab B w0) (hx:Nw B w0 f (nodeC kind pos n m name (.slice ko kl kc)).toList) (h1:labOf (nodeC kind pos n m name (.slice ko kl kc)).toList=9):Wc B w0 wb 75 (nodeC kind pos n m name (.slice ko kl kc)) (tok f w0 (nodeC kind pos n m name (.slice ko kl kc)).toList):=by
 obtain rfl:=lab_is h1 (by omega)
 cases f with
 |zero=>exact absurd hx (fun x=>x)
 |succ f=>
  rcases Nat.eq_zero_or_pos kl with hz|hz
  ·exact e75_9a (fun g hg=>@hRs g (Nat.le_succ_of_le hg)) ht hz hx
  ·exact e75_9b (fun g hg=>@hRs g (Nat.le_succ_of_le hg)) ht hz hx
end
end Go.Proofs.YtagdihffmjopaaaGreatDoor
