/- The document's writer: what is made. -/
import Derived.Test.YtagdihffmjopaaaGreatDoorPtg
import Derived.Test.YtagdihffmjopaaaGreatDoorPsi
namespace Go.Proofs.YtagdihffmjopaaaGreatDoor
set_option linter.all false
open Go.RowKit
section
variable{B:Nat} {w0 w:World} {wb f:Nat} {bs:List UInt8} {kind pos n m:Int} {name:ByteArray} {ko:Option Addr} {kl kc:Nat}
theorem init_open (hRs:∀g,g≤f→RN B w0 wb g) (hx:Nw B w0 f (nodeC kind pos n m name (.slice ko kl kc)).toList) (h1:labOf (nodeC kind pos n m name (.slice ko kl kc)).toList=45):∃(k p a b:Int) (s:ByteArray) (o:Option Addr) (l c g:Nat) (T:List (List UInt8)),ko=some ⟨g,0,none⟩∧kl=1∧Wc B w0 wb 76 (nodeC k p a b s (.slice o l c)) T∧(∀W,Below B w0 W→B≤W.heap.size→g<W.heap.size∧∀j,j<11→W.cell? ⟨g,0*11+j,none⟩=(nodeC k p a b s (.slice o l c)).toList[j]?)∧tok f w0 (nodeC kind pos n m name (.slice ko kl kc)).toList=tl name::[58]::T:=by
 obtain rfl:=lab_is h1 (by omega)
 obtain⟨k,p,a,b,s,o,l,c,g,T,e1,e2,e3,e4,e5⟩:=one_open hRs hx (fun ks hg=>hg.one (by decide))
 refine⟨k,p,a,b,s,o,l,c,g,T,e1,e2,e3,e4,?_⟩
 rw[e5]
 show tl name::[58]::pAll [⟨k,l,T⟩]=_
 simp[pAll]
set_option maxRecDepth 100000 in
set_option maxHeartbeats 2000000 in
theorem e101_44b (hRs:∀g,g≤f→RN B w0 wb g) (ht:Tab B w0) (hko:(∃g,ko=some ⟨g,0,none⟩)∧∀z:Nat,m=(z:Int)→kc≠z) (hx:Nw B w0 (f+1) (nodeC 44 pos n m name (.slice ko kl kc)).toList):Wc B w0 wb 101 (nodeC 44 pos n m name (.slice ko kl kc)) (tok (f+1) w0 (nodeC 44 pos n m name (.slice ko kl kc)).toList):=by
 intro w bs h hne hf
 have hR:RN B w0 wb f:=@hRs f (Nat.le_refl f)
 have hcap:=hx.cap
 obtain⟨vs,hkl,hr,hg,htok,hs,hc⟩:=hx.opened
 rw[htok] at hf⊢
 clear htok hx
 obtain⟨g,rfl⟩:=hko.1
 obtain⟨hp2,cs,zs,eks,hml,hcs,hzs⟩:=hg.make rfl
 obtain⟨mm,hmm⟩:∃mm,cs.length=mm:=⟨_,rfl⟩
 obtain rfl:m=(mm:Int):=by rw[←hml,hmm]
 obtain⟨l1,hl1⟩:∃l1,zs.length=l1:=⟨_,rfl⟩
 obtain rfl:kl=mm+l1:=by
  have:=congrArg List.length eks
  simp at this;omega
 have HNT:Hid (NTl name.data.toList):=hp2.ntl
 obtain⟨cz,rfl⟩:∃cz,kc=mm+cz:=⟨kc - mm,by omega⟩
 have hkz:=hko.2 mm rfl
 have hcz:¬cz=0:=by omega
 obtain⟨us,hus⟩:∃us,us=vs.drop mm:=⟨_,rfl⟩
 have hul:us.length=l1:=by rw[hus,List.length_drop];omega
 have em:(vs.map (kdAt f w0)).drop mm=us.map (kdAt f w0):=by rw[hus,List.map_drop]
 obtain⟨vt,hvt⟩:∃vt,vt=vs.take mm:=⟨_,rfl⟩
 have hvl:vt.length=mm:=by rw[hvt,List.length_take];omega
 have em2:(vs.map (kdAt f w0)).take mm=vt.map (kdAt f w0):=by rw[hvt,List.map_take]
 have hb:=hr.few
 rw[hkl] at hb
 have hk45:∀x∈us,labOf x=45:=fun x hx=>hzs _ (by have:=labs_drop eks hmm;rw[←this,←hus];exact List.mem_map.2 ⟨x,hx,rfl⟩)
 have hkno:∀x∈vt,noK (labOf x):=fun x hx=>hcs _ (by
  have h9:labOf x∈(vs.take mm).map labOf:=List.mem_map.2 ⟨x,hvt▸hx,rfl⟩
  rw[List.map_take,eks,←hmm,List.take_left'] at h9
  ·exact h9
  ·rfl)
 have e:asm 44 n mm (name:ByteArray).data.toList (vs.map (kdAt f w0))=[109,97,107,101]::(pth (tl name)::(pTys (vt.map (kdAt f w0))++([123]::(pSep [44] (us.map (kdAt f w0))++[[125]])))):=by
  show [109,97,107,101]::pth (tl name)::(pTys ((vs.map (kdAt f w0)).take ((mm:Nat):Int).toNat)++pRow [123] [125] ((vs.map (kdAt f w0)).drop ((mm:Nat):Int).toNat))=_;rw[Int.toNat_natCast,em,em2];rfl
 rw[e] at hf⊢
 clear e
 have q:=(Sw.start h hne hf).box (nodeC 44 pos n mm name (.slice (some ⟨g,0,none⟩) (mm+l1) (mm+cz)))
 have HL:Hid (NR B w0 f (some ⟨g,mm*11,none⟩) us∧(∀x∈us,labOf x=45)∧us.length=l1):=⟨by have:=hr.drop mm;rw[←hus] at this;simpa using this,hk45,hul⟩
 have HT:Hid (NR B w0 f (some ⟨g,0,none⟩) vt∧(∀x∈vt,noK (labOf x))∧vt.length=mm):=⟨by have:=hr.take mm;rwa [←hvt] at this,hkno,hvl⟩
 have HRs:Hid (∀g,g≤f→RN B w0 wb g):=fun g hg=>@hRs g hg
 have hbI:(mm:Int)+(l1:Int)≤20000:=by omega
 have hcI:(l1:Int)≤(cz:Int):=by omega
 subst hul
 clear h hne hf hr hg hc hkl hcap hRs hus em hvt hvl em2 hb eks hml hcs hzs hp2 hl1 hk45 hkno hmm hkz
 have F:=q.f1
 obtain⟨nb,hnb⟩:∃nb,nb=w.heap.size:=⟨_,rfl⟩
 go_enter Tryz.func101,Tryz.ntmps101
 go_wp2_with (first
  |(go_at_call 33;refine q.put ?_;clear q F;intro w2 q;have F:=q.f1)
  |(go_at_call 72;refine q.path hs HNT.out ?_;clear q F;intro w2 q;have F:=q.f1)
  |(go_at_call 114;refine q.go (fun a1 a2 a3=>written114n hR HT.out.1 HT.out.2.1 HT.out.2.2 a1 a2 a3) ?_;clear q F;intro w2 q;have F:=q.f1))
 rw[←hnb] at q F⊢
 clear hnb
 go_loopg [140] us.length (fun gg u wr=>∃(idx:Nat) (ts:List (List UInt8)),gg=us.length - idx∧u=.int .i64 idx∧idx≤us.length∧Hid (ts++pRest [44] (us.map (kdAt f w0)) idx=([109,97,107,101]::(pth (tl name)::(pTys (vt.map (kdAt f w0))++[[123]])))++pSep [44] (us.map (kdAt f w0)))∧Hid (Sw B w0 w wb bs ts (pRest [44] (us.map (kdAt f w0)) idx++[[125]]) wr [(nb,(nodeC 44 pos n mm name (.slice (some ⟨g,0,none⟩) (mm+us.length) (mm+cz))))]))
 case atStart=>exact⟨0,_,rfl,rfl,Nat.zero_le _,(by show _=_;simp[pRest]),q⟩
 case round=>
  clear q F
  obtain⟨idx,ts,hgk,rfl,hidx,HT,Q⟩:=hrel
  have HG:Hid (gk=us.length - idx):=hgk
  clear hgk
  by_cases hlt:idx<us.length
  ·have hltI:(idx:Int)<(us.length:Int):=by omega
   obtain⟨x,hx⟩:∃x,us[idx]? =some x:=⟨_,List.getElem?_eq_getElem hlt⟩
   obtain⟨gx,ox,hax,hgB,hcell⟩:=HL.out.1.cell idx x hx
   have hmem:=List.mem_of_getElem? hx
   obtain⟨kind2,pos2,n2,m2,name2,ko2,kl2,kc2,rfl,-,-⟩:=(HL.out.1.all x hmem).fields
   have HX:Hid (Nw B w0 f (nodeC kind2 pos2 n2 m2 name2 (.slice ko2 kl2 kc2)).toList∧labOf (nodeC kind2 pos2 n2 m2 name2 (.slice ko2 kl2 kc2)).toList=45∧(us.map (kdAt f w0))[idx]? =some (kdAt f w0 (nodeC kind2 pos2 n2 m2 name2 (.slice ko2 kl2 kc2)).toList)):=⟨HL.out.1.all _ hmem,HL.out.2.1 _ hmem,by rw[List.getElem?_map,hx];rfl⟩
   have lift:∀j,j<11→wr.cell? ⟨gx,ox+idx*11+j,none⟩=(nodeC kind2 pos2 n2 m2 name2 (.slice ko2 kl2 kc2)).toList[j]? :=fun j hj=>(Q.out.wr.bel.cell (p:=⟨gx,ox+idx*11+j,none⟩) hgB).trans (hcell j hj)
   have lgx:gx<wr.heap.size:=Nat.lt_of_lt_of_le hgB Q.out.wr.base
   obtain⟨rfl,rfl⟩:g=gx∧mm*11=ox:=by simpa using hax
   have e0:=lift 0 (by decide)
   have e1:=lift 1 (by decide)
   have e2:=lift 2 (by decide)
   have e3:=lift 3 (by decide)
   have e4:=lift 4 (by decide)
   have e5:=lift 5 (by decide)
   have e6:=lift 6 (by decide)
   have e7:=lift 7 (by decide)
   have e8:=lift 8 (by decide)
   have e9:=lift 9 (by decide)
   have e10:=lift 10 (by decide)
   simp only[Nat.add_zero,Nat.zero_add] at e0 e1 e2 e3 e4 e5 e6 e7 e8 e9 e10
   clear lift hcell hx hmem
   obtain⟨k3,p3,a3,b3,s3,o3,l3,c3,g3,T,hko,hkl2,HW',HC',hT⟩:=init_open HRs.out HX.out.1 HX.out.2.1
   subst hko hkl2
   have HW:Hid (Wc B w0 wb 76 (nodeC k3 p3 a3 b3 s3 (.slice o3 l3 c3)) T):=HW'
   have HC:Hid (∀W,Below B w0 W→B≤W.heap.size→g3<W.heap.size∧∀j,j<11→W.cell? ⟨g3,0*11+j,none⟩=(nodeC k3 p3 a3 b3 s3 (.slice o3 l3 c3)).toList[j]?):=HC'
   clear HW' HC'
   have lg2:=(HC.out _ Q.out.wr.bel Q.out.wr.base).1
   have G3:=kid0 (HC.out _ Q.out.wr.bel Q.out.wr.base).2
   obtain⟨KT,hKT⟩:∃KT,KT=[tl name2,[58]]++T:=⟨_,rfl⟩
   have HKT:Hid (tok f w0 (nodeC kind2 pos2 n2 m2 name2 (.slice (some ⟨g3,0,none⟩) 1 kc2)).toList=KT):=by show _=_;rw[hKT];exact hT
   clear hT
   rcases Nat.eq_zero_or_pos idx with h0|h0
   ·subst h0
    simp only[Nat.zero_mul,Nat.add_zero,Nat.zero_add] at e0 e1 e2 e3 e4 e5 e6 e7 e8 e9 e10
    have st:pRest [44] (us.map (kdAt f w0)) 0=KT++(pRest [44] (us.map (kdAt f w0)) (0+1)):=by rw[pRest_zero HX.out.2.2];exact congrArg (· ++_) HKT.out
    have HE:Hid (ts++([]++(KT++pRest [44] (us.map (kdAt f w0)) (0+1)))=([109,97,107,101]::(pth (tl name)::(pTys (vt.map (kdAt f w0))++[[123]])))++pSep [44] (us.map (kdAt f w0))):=by show _=_;rw[←HT.out,st];simp
    have q:=((Q.out.as (rest':=[tl name2,[58]]++(T++(pRest [44] (us.map (kdAt f w0)) (0+1)++[[125]]))) (by rw[st,hKT];simp)).box (nodeC kind2 pos2 n2 m2 name2 (.slice (some ⟨g3,0,none⟩) 1 kc2)))
    have HE2:Hid (ts++(([tl name2,[58]])++(T)++pRest [44] (us.map (kdAt f w0)) (0+1))=([109,97,107,101]::(pth (tl name)::(pTys (vt.map (kdAt f w0))++[[123]])))++pSep [44] (us.map (kdAt f w0))):=by show _=_;rw[←HE.out,hKT];simp
    clear st hKT
    have F:=q.f1
    go_wp2_with (first
     |(go_at_call 76;refine q.go (fun a1 a2 a3=>HW.out a1 a2 a3) ?_;clear q F lg2 G3;intro w2 q;have F:=q.f1;have lg2:=(HC.out _ q.wr.bel q.wr.base).1;have G3:=kid0 (HC.out _ q.wr.bel q.wr.base).2)
     |(go_at_call 31;refine q.puts (ss:=[name2,⟨#[58]⟩]) (hg:=by first|rfl|simp) (ho:=rfl) (hX:=rfl) (hn:=rfl) (hl:=by decide) ?_;clear q F lg2 G3;intro w2 q;have F:=q.f1;have lg2:=(HC.out _ q.wr.bel q.wr.base).1;have G3:=kid0 (HC.out _ q.wr.bel q.wr.base).2)
     |(go_at_call 33;refine q.put ?_;clear q F lg2 G3;intro w2 q;have F:=q.f1;have lg2:=(HC.out _ q.wr.bel q.wr.base).1;have G3:=kid0 (HC.out _ q.wr.bel q.wr.base).2))
    go_roundg (us.length - (0+1))
    case measure=>rw[HG.out];omega
    case rel=>exact⟨0+1,_,rfl,by go_num,hlt,(by show _=_;have:=HE2.out;simpa using this),q.pop⟩
   ·have hI:(0:Int)<(idx:Int):=by omega
    have st:pRest [44] (us.map (kdAt f w0)) idx=[44]::(KT++(pRest [44] (us.map (kdAt f w0)) (idx+1))):=by rw[pRest_succ h0 HX.out.2.2];exact congrArg (fun z=>[44]::(z++_)) HKT.out
    have HE:Hid (ts++([[44]]++(KT++pRest [44] (us.map (kdAt f w0)) (idx+1)))=([109,97,107,101]::(pth (tl name)::(pTys (vt.map (kdAt f w0))++[[123]])))++pSep [44] (us.map (kdAt f w0))):=by show _=_;rw[←HT.out,st];simp
    have q:=((Q.out.as (rest':=[44]::([tl name2,[58]]++(T++(pRest [44] (us.map (kdAt f w0)) (idx+1)++[[125]])))) (by rw[st,hKT];simp)).box (nodeC kind2 pos2 n2 m2 name2 (.slice (some ⟨g3,0,none⟩) 1 kc2)))
    have HE2:Hid (ts++([[44]]++([tl name2,[58]])++(T)++pRest [44] (us.map (kdAt f w0)) (idx+1))=([109,97,107,101]::(pth (tl name)::(pTys (vt.map (kdAt f w0))++[[123]])))++pSep [44] (us.map (kdAt f w0))):=by show _=_;rw[←HE.out,hKT];simp
    clear st hKT
    have F:=q.f1
    go_wp2_with (first
     |(go_at_call 76;refine q.go (fun a1 a2 a3=>HW.out a1 a2 a3) ?_;clear q F lg2 G3;intro w2 q;have F:=q.f1;have lg2:=(HC.out _ q.wr.bel q.wr.base).1;have G3:=kid0 (HC.out _ q.wr.bel q.wr.base).2)
     |(go_at_call 31;refine q.puts (ss:=[name2,⟨#[58]⟩]) (hg:=by first|rfl|simp) (ho:=rfl) (hX:=rfl) (hn:=rfl) (hl:=by decide) ?_;clear q F lg2 G3;intro w2 q;have F:=q.f1;have lg2:=(HC.out _ q.wr.bel q.wr.base).1;have G3:=kid0 (HC.out _ q.wr.bel q.wr.base).2)
     |(go_at_call 33;refine q.put ?_;clear q F lg2 G3;intro w2 q;have F:=q.f1;have lg2:=(HC.out _ q.wr.bel q.wr.base).1;have G3:=kid0 (HC.out _ q.wr.bel q.wr.base).2))
    go_roundg (us.length - (idx+1))
    case measure=>rw[HG.out];omega
    case rel=>exact⟨idx+1,_,rfl,by go_num,hlt,(by show _=_;have:=HE2.out;simpa using this),q.pop⟩
  ·have hltI:¬(idx:Int)<(us.length:Int):=by omega
   obtain rfl:idx=us.length:=by omega
   have e:pRest [44] (us.map (kdAt f w0)) us.length=[]:=by have:=pRest_end (s:=[44]) (ks:=(us.map (kdAt f w0)));rwa [List.length_map] at this
   have q:=Q.out.as (rest':=[[125]]) (by rw[e];rfl)
   have HE:Hid (ts=([109,97,107,101]::(pth (tl name)::(pTys (vt.map (kdAt f w0))++[[123]])))++pSep [44] (us.map (kdAt f w0))):=by show _=_;rw[←HT.out,e,List.append_nil]
   clear e
   have F:=q.f1
   go_wp2_with (go_at_call 33;refine q.put ?_;clear q F;intro w3 q;have F:=q.f1)
   go_end0
   exact q.done (by rw[HE.out];simp)
set_option maxRecDepth 100000 in
set_option maxHeartbeats 2000000 in
theorem e101_44c (hRs:∀g,g≤f→RN B w0 wb g) (ht:Tab B w0) (hko:(∃g,ko=some ⟨g,0,none⟩)∧∀z:Nat,m=(z:Int)→kc=z) (hx:Nw B w0 (f+1) (nodeC 44 pos n m name (.slice ko kl kc)).toList):Wc B w0 wb 101 (nodeC 44 pos n m name (.slice ko kl kc)) (tok (f+1) w0 (nodeC 44 pos n m name (.slice ko kl kc)).toList):=by
 intro w bs h hne hf
 have hR:RN B w0 wb f:=@hRs f (Nat.le_refl f)
 have hcap:=hx.cap
 obtain⟨vs,hkl,hr,hg,htok,hs,hc⟩:=hx.opened
 rw[htok] at hf⊢
 clear htok hx
 obtain⟨g,rfl⟩:=hko.1
 obtain⟨hp2,cs,zs,eks,hml,hcs,hzs⟩:=hg.make rfl
 obtain⟨mm,hmm⟩:∃mm,cs.length=mm:=⟨_,rfl⟩
 obtain rfl:m=(mm:Int):=by rw[←hml,hmm]
 obtain⟨l1,hl1⟩:∃l1,zs.length=l1:=⟨_,rfl⟩
 obtain rfl:kl=mm+l1:=by
  have:=congrArg List.length eks
  simp at this;omega
 have HNT:Hid (NTl name.data.toList):=hp2.ntl
 obtain⟨cz,rfl⟩:∃cz,kc=mm+cz:=⟨kc - mm,by omega⟩
 have hkz:=hko.2 mm rfl
 obtain rfl:cz=0:=by omega
 obtain⟨us,hus⟩:∃us,us=vs.drop mm:=⟨_,rfl⟩
 have hul:us.length=l1:=by rw[hus,List.length_drop];omega
 have em:(vs.map (kdAt f w0)).drop mm=us.map (kdAt f w0):=by rw[hus,List.map_drop]
 obtain⟨vt,hvt⟩:∃vt,vt=vs.take mm:=⟨_,rfl⟩
 have hvl:vt.length=mm:=by rw[hvt,List.length_take];omega
 have em2:(vs.map (kdAt f w0)).take mm=vt.map (kdAt f w0):=by rw[hvt,List.map_take]
 have hb:=hr.few
 rw[hkl] at hb
 have hk45:∀x∈us,labOf x=45:=fun x hx=>hzs _ (by have:=labs_drop eks hmm;rw[←this,←hus];exact List.mem_map.2 ⟨x,hx,rfl⟩)
 have hkno:∀x∈vt,noK (labOf x):=fun x hx=>hcs _ (by
  have h9:labOf x∈(vs.take mm).map labOf:=List.mem_map.2 ⟨x,hvt▸hx,rfl⟩
  rw[List.map_take,eks,←hmm,List.take_left'] at h9
  ·exact h9
  ·rfl)
 have e:asm 44 n mm (name:ByteArray).data.toList (vs.map (kdAt f w0))=[109,97,107,101]::(pth (tl name)::(pTys (vt.map (kdAt f w0))++([123]::(pSep [44] (us.map (kdAt f w0))++[[125]])))):=by
  show [109,97,107,101]::pth (tl name)::(pTys ((vs.map (kdAt f w0)).take ((mm:Nat):Int).toNat)++pRow [123] [125] ((vs.map (kdAt f w0)).drop ((mm:Nat):Int).toNat))=_;rw[Int.toNat_natCast,em,em2];rfl
 rw[e] at hf⊢
 clear e
 have q:=(Sw.start h hne hf).box (nodeC 44 pos n mm name (.slice (some ⟨g,0,none⟩) (mm+l1) (mm+0)))
 have HL:Hid (NR B w0 f (some ⟨g,0,none⟩) us∧(∀x∈us,labOf x=45)∧us.length=l1):=⟨by obtain rfl:us=[]:=List.eq_nil_of_length_eq_zero (by omega);exact NR.nil,hk45,hul⟩
 have HT:Hid (NR B w0 f (some ⟨g,0,none⟩) vt∧(∀x∈vt,noK (labOf x))∧vt.length=mm):=⟨by have:=hr.take mm;rwa [←hvt] at this,hkno,hvl⟩
 have HRs:Hid (∀g,g≤f→RN B w0 wb g):=fun g hg=>@hRs g hg
 have hbI:(mm:Int)+(l1:Int)≤20000:=by omega
 subst hul
 clear h hne hf hr hg hc hkl hcap hRs hus em hvt hvl em2 hb eks hml hcs hzs hp2 hl1 hk45 hkno hmm hkz
 have F:=q.f1
 obtain⟨nb,hnb⟩:∃nb,nb=w.heap.size:=⟨_,rfl⟩
 go_enter Tryz.func101,Tryz.ntmps101
 go_wp2_with (first
  |(go_at_call 33;refine q.put ?_;clear q F;intro w2 q;have F:=q.f1)
  |(go_at_call 72;refine q.path hs HNT.out ?_;clear q F;intro w2 q;have F:=q.f1)
  |(go_at_call 114;refine q.go (fun a1 a2 a3=>written114n hR HT.out.1 HT.out.2.1 HT.out.2.2 a1 a2 a3) ?_;clear q F;intro w2 q;have F:=q.f1))
 rw[←hnb] at q F⊢
 clear hnb
 go_loopg [140] us.length (fun gg u wr=>∃(idx:Nat) (ts:List (List UInt8)),gg=us.length - idx∧u=.int .i64 idx∧idx≤us.length∧Hid (ts++pRest [44] (us.map (kdAt f w0)) idx=([109,97,107,101]::(pth (tl name)::(pTys (vt.map (kdAt f w0))++[[123]])))++pSep [44] (us.map (kdAt f w0)))∧Hid (Sw B w0 w wb bs ts (pRest [44] (us.map (kdAt f w0)) idx++[[125]]) wr [(nb,(nodeC 44 pos n mm name (.slice (some ⟨g,0,none⟩) (mm+us.length) (mm+0))))]))
 case atStart=>exact⟨0,_,rfl,rfl,Nat.zero_le _,(by show _=_;simp[pRest]),q⟩
 case round=>
  clear q F
  obtain⟨idx,ts,hgk,rfl,hidx,HT,Q⟩:=hrel
  have HG:Hid (gk=us.length - idx):=hgk
  clear hgk
  by_cases hlt:idx<us.length
  ·have hltI:(idx:Int)<(us.length:Int):=by omega
   obtain⟨x,hx⟩:∃x,us[idx]? =some x:=⟨_,List.getElem?_eq_getElem hlt⟩
   obtain⟨gx,ox,hax,hgB,hcell⟩:=HL.out.1.cell idx x hx
   have hmem:=List.mem_of_getElem? hx
   obtain⟨kind2,pos2,n2,m2,name2,ko2,kl2,kc2,rfl,-,-⟩:=(HL.out.1.all x hmem).fields
   have HX:Hid (Nw B w0 f (nodeC kind2 pos2 n2 m2 name2 (.slice ko2 kl2 kc2)).toList∧labOf (nodeC kind2 pos2 n2 m2 name2 (.slice ko2 kl2 kc2)).toList=45∧(us.map (kdAt f w0))[idx]? =some (kdAt f w0 (nodeC kind2 pos2 n2 m2 name2 (.slice ko2 kl2 kc2)).toList)):=⟨HL.out.1.all _ hmem,HL.out.2.1 _ hmem,by rw[List.getElem?_map,hx];rfl⟩
   have lift:∀j,j<11→wr.cell? ⟨gx,ox+idx*11+j,none⟩=(nodeC kind2 pos2 n2 m2 name2 (.slice ko2 kl2 kc2)).toList[j]? :=fun j hj=>(Q.out.wr.bel.cell (p:=⟨gx,ox+idx*11+j,none⟩) hgB).trans (hcell j hj)
   have lgx:gx<wr.heap.size:=Nat.lt_of_lt_of_le hgB Q.out.wr.base
   obtain⟨rfl,rfl⟩:g=gx∧0=ox:=by simpa using hax
   have e0:=lift 0 (by decide)
   have e1:=lift 1 (by decide)
   have e2:=lift 2 (by decide)
   have e3:=lift 3 (by decide)
   have e4:=lift 4 (by decide)
   have e5:=lift 5 (by decide)
   have e6:=lift 6 (by decide)
   have e7:=lift 7 (by decide)
   have e8:=lift 8 (by decide)
   have e9:=lift 9 (by decide)
   have e10:=lift 10 (by decide)
   simp only[Nat.add_zero,Nat.zero_add] at e0 e1 e2 e3 e4 e5 e6 e7 e8 e9 e10
   clear lift hcell hx hmem
   obtain⟨k3,p3,a3,b3,s3,o3,l3,c3,g3,T,hko,hkl2,HW',HC',hT⟩:=init_open HRs.out HX.out.1 HX.out.2.1
   subst hko hkl2
   have HW:Hid (Wc B w0 wb 76 (nodeC k3 p3 a3 b3 s3 (.slice o3 l3 c3)) T):=HW'
   have HC:Hid (∀W,Below B w0 W→B≤W.heap.size→g3<W.heap.size∧∀j,j<11→W.cell? ⟨g3,0*11+j,none⟩=(nodeC k3 p3 a3 b3 s3 (.slice o3 l3 c3)).toList[j]?):=HC'
   clear HW' HC'
   have lg2:=(HC.out _ Q.out.wr.bel Q.out.wr.base).1
   have G3:=kid0 (HC.out _ Q.out.wr.bel Q.out.wr.base).2
   obtain⟨KT,hKT⟩:∃KT,KT=[tl name2,[58]]++T:=⟨_,rfl⟩
   have HKT:Hid (tok f w0 (nodeC kind2 pos2 n2 m2 name2 (.slice (some ⟨g3,0,none⟩) 1 kc2)).toList=KT):=by show _=_;rw[hKT];exact hT
   clear hT
   rcases Nat.eq_zero_or_pos idx with h0|h0
   ·subst h0
    simp only[Nat.zero_mul,Nat.add_zero,Nat.zero_add] at e0 e1 e2 e3 e4 e5 e6 e7 e8 e9 e10
    have st:pRest [44] (us.map (kdAt f w0)) 0=KT++(pRest [44] (us.map (kdAt f w0)) (0+1)):=by rw[pRest_zero HX.out.2.2];exact congrArg (· ++_) HKT.out
    have HE:Hid (ts++([]++(KT++pRest [44] (us.map (kdAt f w0)) (0+1)))=([109,97,107,101]::(pth (tl name)::(pTys (vt.map (kdAt f w0))++[[123]])))++pSep [44] (us.map (kdAt f w0))):=by show _=_;rw[←HT.out,st];simp
    have q:=((Q.out.as (rest':=[tl name2,[58]]++(T++(pRest [44] (us.map (kdAt f w0)) (0+1)++[[125]]))) (by rw[st,hKT];simp)).box (nodeC kind2 pos2 n2 m2 name2 (.slice (some ⟨g3,0,none⟩) 1 kc2)))
    have HE2:Hid (ts++(([tl name2,[58]])++(T)++pRest [44] (us.map (kdAt f w0)) (0+1))=([109,97,107,101]::(pth (tl name)::(pTys (vt.map (kdAt f w0))++[[123]])))++pSep [44] (us.map (kdAt f w0))):=by show _=_;rw[←HE.out,hKT];simp
    clear st hKT
    have F:=q.f1
    go_wp2_with (first
     |(go_at_call 76;refine q.go (fun a1 a2 a3=>HW.out a1 a2 a3) ?_;clear q F lg2 G3;intro w2 q;have F:=q.f1;have lg2:=(HC.out _ q.wr.bel q.wr.base).1;have G3:=kid0 (HC.out _ q.wr.bel q.wr.base).2)
     |(go_at_call 31;refine q.puts (ss:=[name2,⟨#[58]⟩]) (hg:=by first|rfl|simp) (ho:=rfl) (hX:=rfl) (hn:=rfl) (hl:=by decide) ?_;clear q F lg2 G3;intro w2 q;have F:=q.f1;have lg2:=(HC.out _ q.wr.bel q.wr.base).1;have G3:=kid0 (HC.out _ q.wr.bel q.wr.base).2)
     |(go_at_call 33;refine q.put ?_;clear q F lg2 G3;intro w2 q;have F:=q.f1;have lg2:=(HC.out _ q.wr.bel q.wr.base).1;have G3:=kid0 (HC.out _ q.wr.bel q.wr.base).2))
    go_roundg (us.length - (0+1))
    case measure=>rw[HG.out];omega
    case rel=>exact⟨0+1,_,rfl,by go_num,hlt,(by show _=_;have:=HE2.out;simpa using this),q.pop⟩
   ·have hI:(0:Int)<(idx:Int):=by omega
    have st:pRest [44] (us.map (kdAt f w0)) idx=[44]::(KT++(pRest [44] (us.map (kdAt f w0)) (idx+1))):=by rw[pRest_succ h0 HX.out.2.2];exact congrArg (fun z=>[44]::(z++_)) HKT.out
    have HE:Hid (ts++([[44]]++(KT++pRest [44] (us.map (kdAt f w0)) (idx+1)))=([109,97,107,101]::(pth (tl name)::(pTys (vt.map (kdAt f w0))++[[123]])))++pSep [44] (us.map (kdAt f w0))):=by show _=_;rw[←HT.out,st];simp
    have q:=((Q.out.as (rest':=[44]::([tl name2,[58]]++(T++(pRest [44] (us.map (kdAt f w0)) (idx+1)++[[125]])))) (by rw[st,hKT];simp)).box (nodeC kind2 pos2 n2 m2 name2 (.slice (some ⟨g3,0,none⟩) 1 kc2)))
    have HE2:Hid (ts++([[44]]++([tl name2,[58]])++(T)++pRest [44] (us.map (kdAt f w0)) (idx+1))=([109,97,107,101]::(pth (tl name)::(pTys (vt.map (kdAt f w0))++[[123]])))++pSep [44] (us.map (kdAt f w0))):=by show _=_;rw[←HE.out,hKT];simp
    clear st hKT
    have F:=q.f1
    go_wp2_with (first
     |(go_at_call 76;refine q.go (fun a1 a2 a3=>HW.out a1 a2 a3) ?_;clear q F lg2 G3;intro w2 q;have F:=q.f1;have lg2:=(HC.out _ q.wr.bel q.wr.base).1;have G3:=kid0 (HC.out _ q.wr.bel q.wr.base).2)
     |(go_at_call 31;refine q.puts (ss:=[name2,⟨#[58]⟩]) (hg:=by first|rfl|simp) (ho:=rfl) (hX:=rfl) (hn:=rfl) (hl:=by decide) ?_;clear q F lg2 G3;intro w2 q;have F:=q.f1;have lg2:=(HC.out _ q.wr.bel q.wr.base).1;have G3:=kid0 (HC.out _ q.wr.bel q.wr.base).2)
     |(go_at_call 33;refine q.put ?_;clear q F lg2 G3;intro w2 q;have F:=q.f1;have lg2:=(HC.out _ q.wr.bel q.wr.base).1;have G3:=kid0 (HC.out _ q.wr.bel q.wr.base).2))
    go_roundg (us.length - (idx+1))
    case measure=>rw[HG.out];omega
    case rel=>exact⟨idx+1,_,rfl,by go_num,hlt,(by show _=_;have:=HE2.out;simpa using this),q.pop⟩
  ·have hltI:¬(idx:Int)<(us.length:Int):=by omega
   obtain rfl:idx=us.length:=by omega
   have e:pRest [44] (us.map (kdAt f w0)) us.length=[]:=by have:=pRest_end (s:=[44]) (ks:=(us.map (kdAt f w0)));rwa [List.length_map] at this
   have q:=Q.out.as (rest':=[[125]]) (by rw[e];rfl)
   have HE:Hid (ts=([109,97,107,101]::(pth (tl name)::(pTys (vt.map (kdAt f w0))++[[123]])))++pSep [44] (us.map (kdAt f w0))):=by show _=_;rw[←HT.out,e,List.append_nil]
   clear e
   have F:=q.f1
   go_wp2_with (go_at_call 33;refine q.put ?_;clear q F;intro w3 q;have F:=q.f1)
   go_end0
   exact q.done (by rw[HE.out];simp)
set_option maxRecDepth 100000 in
set_option maxHeartbeats 2000000 in
theorem e101_44a (hRs:∀g,g≤f→RN B w0 wb g) (ht:Tab B w0) (hko:ko=none∧kl=0∧kc=0) (hx:Nw B w0 (f+1) (nodeC 44 pos n m name (.slice ko kl kc)).toList):Wc B w0 wb 101 (nodeC 44 pos n m name (.slice ko kl kc)) (tok (f+1) w0 (nodeC 44 pos n m name (.slice ko kl kc)).toList):=by
 intro w bs h hne hf
 have hR:RN B w0 wb f:=@hRs f (Nat.le_refl f)
 have hcap:=hx.cap
 obtain⟨vs,hkl,hr,hg,htok,hs,hc⟩:=hx.opened
 rw[htok] at hf⊢
 clear htok hx
 obtain⟨rfl,rfl,rfl⟩:=hko
 obtain⟨hp2,cs,zs,eks,hml,-,-⟩:=hg.make rfl
 have HNT:Hid (NTl name.data.toList):=hp2.ntl
 obtain rfl:m=0:=by
  have:=congrArg List.length eks
  simp[hkl] at this
  have h0:cs.length=0:=by omega
  rw[←hml,h0];rfl
 have e:asm 44 n 0 (name:ByteArray).data.toList (vs.map (kdAt f w0))=[109,97,107,101]::(pth (tl name)::(pTys (vs.map (kdAt f w0))++([123]::[125]::[]))):=by
  obtain rfl:vs=[]:=List.eq_nil_of_length_eq_zero hkl
  rfl
 rw[e] at hf⊢
 clear e
 have q:=(Sw.start h hne hf).box (nodeC 44 pos n 0 name (.slice none 0 0))
 have HT:Hid (NR B w0 f none vs∧(∀x∈vs,noK (labOf x))∧vs.length=0):=⟨hr,fun x hx=>(by obtain rfl:vs=[]:=List.eq_nil_of_length_eq_zero hkl;cases hx),hkl⟩
 clear h hne hf hr hg hc hkl hcap hRs hp2 eks hml
 have F:=q.f1
 go_enter Tryz.func101,Tryz.ntmps101
 go_wp2_with (first
  |(go_at_call 33;refine q.put ?_;clear q F;intro w2 q;have F:=q.f1)
  |(go_at_call 72;refine q.path hs HNT.out ?_;clear q F;intro w2 q;have F:=q.f1)
  |(go_at_call 114;refine q.go (fun a1 a2 a3=>written114n hR HT.out.1 HT.out.2.1 HT.out.2.2 a1 a2 a3) ?_;clear q F;intro w2 q;have F:=q.f1))
 go_loopg [140] 0 (fun gg u wr=>∃(ts:List (List UInt8)),gg=0∧u=.int .i64 0∧Hid (ts=[109,97,107,101]::(pth (tl name)::(pTys (vs.map (kdAt f w0))++[[123]])))∧Hid (Sw B w0 w wb bs ts [[125]] wr []))
 case atStart=>exact⟨_,rfl,rfl,(by show _=_;simp),q.pop⟩
 case round=>
  clear q F
  obtain⟨ts,-,rfl,HT2,Q⟩:=hrel
  have q:=Q.out
  go_wp2_with (go_at_call 33;refine q.put ?_;clear q;intro w3 q)
  go_end0
  exact q.done (by rw[HT2.out];simp)
end
end Go.Proofs.YtagdihffmjopaaaGreatDoor
