/- The project's writer: patterns. -/
import Derived.Test.YtagdihffmjopaaaGreatDoorPtn
import Derived.Test.YtagdihffmjopaaaGreatDoorPta
namespace Go.Proofs.YtagdihffmjopaaaGreatDoor
set_option linter.all false
open Go.RowKit
section
variable{B:Nat} {w0 w:World} {wb f:Nat} {bs:List UInt8} {kind pos n m:Int} {name:ByteArray} {ko:Option Addr} {kl kc:Nat}
set_option maxRecDepth 100000 in
set_option maxHeartbeats 2000000 in
theorem e32_7n (hRs:∀g,g≤f→RN B w0 wb g) (ht:Tab B w0) (hkc:kc≠2) (hx:Nw B w0 (f+1) (nodeC 7 pos n m name (.slice ko kl kc)).toList):Wc B w0 wb 32 (nodeC 7 pos n m name (.slice ko kl kc)) (tok (f+1) w0 (nodeC 7 pos n m name (.slice ko kl kc)).toList):=by
 intro w bs h hne hf
 have hR:RN B w0 wb f:=@hRs f (Nat.le_refl f)
 have hcap:=hx.cap
 obtain⟨vs,hkl,hr,hg,htok,hs,hc⟩:=hx.opened
 rw[htok] at hf⊢
 clear htok hx
 obtain⟨hp2,yt,fsl,eks,ny,hfs⟩:=hg.impl rfl
 have HNT:Hid (NTl name.data.toList):=hp2.ntl
 have:2≤kl:=by
  have h9:=congrArg List.length eks
  simp at h9;omega
 obtain⟨ln,rfl⟩:∃ln,kl=2+ln:=⟨kl - 2,by omega⟩
 obtain⟨cz,rfl⟩:∃cz,kc=2+cz:=⟨kc - 2,by omega⟩
 obtain⟨k0,p0,a0,b0,s0,o0,l0,c0,g,X0,Y0,Z0,e0,y0,z0,rfl,W0,WO0,WR0,C0⟩:=(kid_gw (fun g hg=>@hRs g hg) ht) hr hc (i:=0) (by omega) (fun x hx=>lab_nth (by rw[eks];rfl) hx)
 obtain⟨k1,p1,a1,b1,s1,o1,l1,c1,g1,X1,Y1,Z1,e1,y1,z1,eg1,W1,WO1,WR1,C1⟩:=kid_w hR hr hc (i:=1) (by omega) (fun x hx=>by rw[lab_nth (z:=yt) (by rw[eks];rfl) hx];exact ny.no)
 obtain rfl:g=g1:=by simpa using eg1
 obtain⟨us,hus⟩:∃us,us=vs.drop 2:=⟨_,rfl⟩
 have hul:us.length=ln:=by rw[hus,List.length_drop];omega
 have em:(vs.map (kdAt f w0)).drop 2=us.map (kdAt f w0):=by rw[hus,List.map_drop]
 have hb:=hr.few
 rw[hkl] at hb
 have e:asm 7 n m (name:ByteArray).data.toList (vs.map (kdAt f w0))=[105,109,112,108]::(X0++(pth (tl name)::([102,111,114]::(X1++([123]::(aR (us.map (kdAt f w0)) 0++[[125]])))))):=by
  show [105,109,112,108]::((kd (vs.map (kdAt f w0)) 0).t++(pth (tl name)::([102,111,114]::((kd (vs.map (kdAt f w0)) 1).t++([123]::(pAll ((vs.map (kdAt f w0)).drop 2)++[[125]]))))))=_
  rw[e0,e1,em]
  rfl
 rw[e] at hf⊢
 clear e
 have q:=(Sw.start h hne hf).box (nodeC 7 pos n m name (.slice (some ⟨g,0,none⟩) (2+ln) (2+cz)))
 have HW0:Hid (Wc B w0 wb 75 (nodeC k0 p0 a0 b0 s0 (.slice o0 l0 c0)) X0):=W0
 have HC0:Hid (∀W,Below B w0 W→B≤W.heap.size→g<W.heap.size∧∀j,j<11→W.cell? ⟨g,0*11+j,none⟩=(nodeC k0 p0 a0 b0 s0 (.slice o0 l0 c0)).toList[j]?):=C0
 have HW1:Hid (Wc B w0 wb 76 (nodeC k1 p1 a1 b1 s1 (.slice o1 l1 c1)) X1):=W1
 have HC1:Hid (∀W,Below B w0 W→B≤W.heap.size→g<W.heap.size∧∀j,j<11→W.cell? ⟨g,1*11+j,none⟩=(nodeC k1 p1 a1 b1 s1 (.slice o1 l1 c1)).toList[j]?):=C1
 have HL:Hid (NR B w0 f (some ⟨g,22,none⟩) us∧(∀x∈us,labOf x=8∨labOf x=208)∧us.length=ln):=⟨by have:=hr.drop 2;rw[←hus] at this;simpa using this,fun x hx=>.inr (hfs _ (by have:=labs_drop (mm:=2) (cs:=[9,yt]) eks rfl;rw[←this,←hus];exact List.mem_map.2 ⟨x,hx,rfl⟩)),hul⟩
 have HRs:Hid (∀g,g≤f→RN B w0 wb g):=fun g hg=>@hRs g hg
 have HTB:Hid (Tab B w0):=ht
 have hbI:2+(ln:Int)≤20000:=by omega
 have hcI:(ln:Int)≤(cz:Int):=by omega
 have hcz:¬cz=0:=by omega
 subst hul
 clear e0 y0 z0 W0 WO0 WR0 C0
 clear e1 y1 z1 W1 WO1 WR1 C1 eg1
 clear h hne hf hr hg hc hkl hcap hRs hus em hb eks ny hfs hp2 hkc
 have F:=q.f1
 have lg:=(HC0.out _ q.wr.bel q.wr.base).1
 have G0:=kid0 (HC0.out _ q.wr.bel q.wr.base).2
 have G1:=kid1 (HC1.out _ q.wr.bel q.wr.base).2
 obtain⟨nb,hnb⟩:∃nb,nb=w.heap.size:=⟨_,rfl⟩
 go_enter Tryz.func32,Tryz.ntmps32
 go_wp2_with (first
  |(go_at_call 75;refine q.go (fun a1 a2 a3=>HW0.out a1 a2 a3) ?_;clear q F lg G0 G1;intro w2 q;have F:=q.f1;have lg:=(HC0.out _ q.wr.bel q.wr.base).1;have G0:=kid0 (HC0.out _ q.wr.bel q.wr.base).2;have G1:=kid1 (HC1.out _ q.wr.bel q.wr.base).2)
  |(go_at_call 76;refine q.go (fun a1 a2 a3=>HW1.out a1 a2 a3) ?_;clear q F lg G0 G1;intro w2 q;have F:=q.f1;have lg:=(HC0.out _ q.wr.bel q.wr.base).1;have G0:=kid0 (HC0.out _ q.wr.bel q.wr.base).2;have G1:=kid1 (HC1.out _ q.wr.bel q.wr.base).2)
  |(go_at_call 72;refine q.path hs HNT.out ?_;clear q F lg G0 G1;intro w2 q;have F:=q.f1;have lg:=(HC0.out _ q.wr.bel q.wr.base).1;have G0:=kid0 (HC0.out _ q.wr.bel q.wr.base).2;have G1:=kid1 (HC1.out _ q.wr.bel q.wr.base).2)
  |(go_at_call 33;refine q.put ?_;clear q F lg G0 G1;intro w2 q;have F:=q.f1;have lg:=(HC0.out _ q.wr.bel q.wr.base).1;have G0:=kid0 (HC0.out _ q.wr.bel q.wr.base).2;have G1:=kid1 (HC1.out _ q.wr.bel q.wr.base).2))
 rw[←hnb] at q F⊢
 clear hnb
 go_loopg [89] us.length (fun gg u wr=>∃(idx:Nat) (ts:List (List UInt8)),gg=us.length - idx∧u=.int .i64 idx∧idx≤us.length∧Hid (ts++aR (us.map (kdAt f w0)) idx=([105,109,112,108]::(X0++(pth (tl name)::([102,111,114]::(X1++([[123]]))))))++aR (us.map (kdAt f w0)) 0)∧Hid (Sw B w0 w wb bs ts (aR (us.map (kdAt f w0)) idx++[[125]]) wr [(nb,(nodeC 7 pos n m name (.slice (some ⟨g,0,none⟩) (2+us.length) (2+cz))))]))
 case atStart=>exact⟨0,_,rfl,rfl,Nat.zero_le _,(by show _=_;simp[aR]),q⟩
 case round=>
  clear q F
  obtain⟨idx,ts,hgk,rfl,hidx,HT,Q⟩:=hrel
  have HG:Hid (gk=us.length - idx):=hgk
  clear hgk
  by_cases hlt:idx<us.length
  ·have hltI:(idx:Int)<(us.length:Int):=by omega
   obtain⟨x,hx⟩:∃x,us[idx]? =some x:=⟨_,List.getElem?_eq_getElem hlt⟩
   obtain⟨gx,ox,hax,hgB,hcell⟩:=HL.out.1.cell idx x hx
   have hmem:=List.mem_of_getElem? hx
   obtain⟨kind2,pos2,n2,m2,name2,ko2,kl2,kc2,rfl,-,-⟩:=(HL.out.1.all x hmem).fields
   have HX:Hid (Nw B w0 f (nodeC kind2 pos2 n2 m2 name2 (.slice ko2 kl2 kc2)).toList∧(labOf (nodeC kind2 pos2 n2 m2 name2 (.slice ko2 kl2 kc2)).toList=8∨labOf (nodeC kind2 pos2 n2 m2 name2 (.slice ko2 kl2 kc2)).toList=208)∧(us.map (kdAt f w0))[idx]? =some (kdAt f w0 (nodeC kind2 pos2 n2 m2 name2 (.slice ko2 kl2 kc2)).toList)):=⟨HL.out.1.all _ hmem,HL.out.2.1 _ hmem,by rw[List.getElem?_map,hx];rfl⟩
   have lift:∀j,j<11→wr.cell? ⟨gx,ox+idx*11+j,none⟩=(nodeC kind2 pos2 n2 m2 name2 (.slice ko2 kl2 kc2)).toList[j]? :=fun j hj=>(Q.out.wr.bel.cell (p:=⟨gx,ox+idx*11+j,none⟩) hgB).trans (hcell j hj)
   have lgx:gx<wr.heap.size:=Nat.lt_of_lt_of_le hgB Q.out.wr.base
   obtain⟨rfl,rfl⟩:g=gx∧22=ox:=by simpa using hax
   have e0:=lift 0 (by decide)
   have e1:=lift 1 (by decide)
   have e2:=lift 2 (by decide)
   have e3:=lift 3 (by decide)
   have e4:=lift 4 (by decide)
   have e5:=lift 5 (by decide)
   have e6:=lift 6 (by decide)
   have e7:=lift 7 (by decide)
   have e8:=lift 8 (by decide)
   have e9:=lift 9 (by decide)
   have e10:=lift 10 (by decide)
   simp only[Nat.add_zero,Nat.zero_add] at e0 e1 e2 e3 e4 e5 e6 e7 e8 e9 e10
   clear lift hcell hx hmem
   obtain⟨T,HW',hT⟩:=fn_open HRs.out HTB.out HX.out.1 HX.out.2.1
   have HW:Hid (Wc B w0 wb 74 (nodeC kind2 pos2 n2 m2 name2 (.slice ko2 kl2 kc2)) T):=HW'
   clear HW'
   obtain⟨KT,hKT⟩:∃KT,KT=T:=⟨_,rfl⟩
   have HKT:Hid (tok f w0 (nodeC kind2 pos2 n2 m2 name2 (.slice ko2 kl2 kc2)).toList=KT):=by show _=_;rw[hKT,hT]
   clear hT
   rcases Nat.eq_zero_or_pos idx with h0|h0
   ·subst h0
    simp only[Nat.zero_mul,Nat.add_zero,Nat.zero_add] at e0 e1 e2 e3 e4 e5 e6 e7 e8 e9 e10
    have st:aR (us.map (kdAt f w0)) 0=KT++(aR (us.map (kdAt f w0)) (0+1)):=by rw[aR_step HX.out.2.2];exact congrArg (fun z=>z++_) HKT.out
    have HE:Hid (ts++([]++(KT++aR (us.map (kdAt f w0)) (0+1)))=([105,109,112,108]::(X0++(pth (tl name)::([102,111,114]::(X1++([[123]]))))))++aR (us.map (kdAt f w0)) 0):=by show _=_;rw[←HT.out,st];simp
    have q:=((Q.out.as (rest':=T++(aR (us.map (kdAt f w0)) (0+1)++[[125]])) (by rw[st,hKT];simp)).box (nodeC kind2 pos2 n2 m2 name2 (.slice ko2 kl2 kc2)))
    have HE2:Hid (ts++((T)++aR (us.map (kdAt f w0)) (0+1))=([105,109,112,108]::(X0++(pth (tl name)::([102,111,114]::(X1++([[123]]))))))++aR (us.map (kdAt f w0)) 0):=by show _=_;rw[←HE.out,hKT];simp
    clear st hKT
    have F:=q.f1
    go_wp2_with (first
     |(go_at_call 74;refine q.go (fun a1 a2 a3=>HW.out a1 a2 a3) ?_;clear q F;intro w2 q;have F:=q.f1)
     |(go_at_call 33;refine q.put ?_;clear q F;intro w2 q;have F:=q.f1))
    go_roundg (us.length - (0+1))
    case measure=>rw[HG.out];omega
    case rel=>exact⟨0+1,_,rfl,by go_num,hlt,(by show _=_;have:=HE2.out;simpa using this),q.pop⟩
   ·have hI:(0:Int)<(idx:Int):=by omega
    have st:aR (us.map (kdAt f w0)) idx=KT++(aR (us.map (kdAt f w0)) (idx+1)):=by rw[aR_step HX.out.2.2];exact congrArg (fun z=>z++_) HKT.out
    have HE:Hid (ts++([]++(KT++aR (us.map (kdAt f w0)) (idx+1)))=([105,109,112,108]::(X0++(pth (tl name)::([102,111,114]::(X1++([[123]]))))))++aR (us.map (kdAt f w0)) 0):=by show _=_;rw[←HT.out,st];simp
    have q:=((Q.out.as (rest':=T++(aR (us.map (kdAt f w0)) (idx+1)++[[125]])) (by rw[st,hKT];simp)).box (nodeC kind2 pos2 n2 m2 name2 (.slice ko2 kl2 kc2)))
    have HE2:Hid (ts++((T)++aR (us.map (kdAt f w0)) (idx+1))=([105,109,112,108]::(X0++(pth (tl name)::([102,111,114]::(X1++([[123]]))))))++aR (us.map (kdAt f w0)) 0):=by show _=_;rw[←HE.out,hKT];simp
    clear st hKT
    have F:=q.f1
    go_wp2_with (first
     |(go_at_call 74;refine q.go (fun a1 a2 a3=>HW.out a1 a2 a3) ?_;clear q F;intro w2 q;have F:=q.f1)
     |(go_at_call 33;refine q.put ?_;clear q F;intro w2 q;have F:=q.f1))
    go_roundg (us.length - (idx+1))
    case measure=>rw[HG.out];omega
    case rel=>exact⟨idx+1,_,rfl,by go_num,hlt,(by show _=_;have:=HE2.out;simpa using this),q.pop⟩
  ·have hltI:¬(idx:Int)<(us.length:Int):=by omega
   obtain rfl:idx=us.length:=by omega
   have e:aR (us.map (kdAt f w0)) us.length=[]:=by have:=aR_end (ks:=(us.map (kdAt f w0)));rwa [List.length_map] at this
   have q:=Q.out.as (rest':=[[125]]) (by rw[e];rfl)
   have HE:Hid (ts=([105,109,112,108]::(X0++(pth (tl name)::([102,111,114]::(X1++([[123]]))))))++aR (us.map (kdAt f w0)) 0):=by show _=_;rw[←HT.out,e,List.append_nil]
   clear e
   have F:=q.f1
   go_wp2_with (go_at_call 33;refine q.put ?_;clear q F;intro w3 q;have F:=q.f1)
   go_end0
   exact q.done (by rw[HE.out];simp[tR,aR])
set_option maxRecDepth 100000 in
set_option maxHeartbeats 2000000 in
theorem e32_7z (hRs:∀g,g≤f→RN B w0 wb g) (ht:Tab B w0) (hkc:kc=2) (hx:Nw B w0 (f+1) (nodeC 7 pos n m name (.slice ko kl kc)).toList):Wc B w0 wb 32 (nodeC 7 pos n m name (.slice ko kl kc)) (tok (f+1) w0 (nodeC 7 pos n m name (.slice ko kl kc)).toList):=by
 intro w bs h hne hf
 have hR:RN B w0 wb f:=@hRs f (Nat.le_refl f)
 have hcap:=hx.cap
 obtain⟨vs,hkl,hr,hg,htok,hs,hc⟩:=hx.opened
 rw[htok] at hf⊢
 clear htok hx
 obtain⟨hp2,yt,fsl,eks,ny,hfs⟩:=hg.impl rfl
 have HNT:Hid (NTl name.data.toList):=hp2.ntl
 have:2≤kl:=by
  have h9:=congrArg List.length eks
  simp at h9;omega
 obtain⟨ln,rfl⟩:∃ln,kl=2+ln:=⟨kl - 2,by omega⟩
 obtain⟨cz,rfl⟩:∃cz,kc=2+cz:=⟨kc - 2,by omega⟩
 obtain rfl:cz=0:=by omega
 obtain⟨k0,p0,a0,b0,s0,o0,l0,c0,g,X0,Y0,Z0,e0,y0,z0,rfl,W0,WO0,WR0,C0⟩:=(kid_gw (fun g hg=>@hRs g hg) ht) hr hc (i:=0) (by omega) (fun x hx=>lab_nth (by rw[eks];rfl) hx)
 obtain⟨k1,p1,a1,b1,s1,o1,l1,c1,g1,X1,Y1,Z1,e1,y1,z1,eg1,W1,WO1,WR1,C1⟩:=kid_w hR hr hc (i:=1) (by omega) (fun x hx=>by rw[lab_nth (z:=yt) (by rw[eks];rfl) hx];exact ny.no)
 obtain rfl:g=g1:=by simpa using eg1
 obtain⟨us,hus⟩:∃us,us=vs.drop 2:=⟨_,rfl⟩
 have hul:us.length=ln:=by rw[hus,List.length_drop];omega
 have em:(vs.map (kdAt f w0)).drop 2=us.map (kdAt f w0):=by rw[hus,List.map_drop]
 have hb:=hr.few
 rw[hkl] at hb
 have e:asm 7 n m (name:ByteArray).data.toList (vs.map (kdAt f w0))=[105,109,112,108]::(X0++(pth (tl name)::([102,111,114]::(X1++([123]::(aR (us.map (kdAt f w0)) 0++[[125]])))))):=by
  show [105,109,112,108]::((kd (vs.map (kdAt f w0)) 0).t++(pth (tl name)::([102,111,114]::((kd (vs.map (kdAt f w0)) 1).t++([123]::(pAll ((vs.map (kdAt f w0)).drop 2)++[[125]]))))))=_
  rw[e0,e1,em]
  rfl
 rw[e] at hf⊢
 clear e
 have q:=(Sw.start h hne hf).box (nodeC 7 pos n m name (.slice (some ⟨g,0,none⟩) (2+ln) (2+0)))
 have HW0:Hid (Wc B w0 wb 75 (nodeC k0 p0 a0 b0 s0 (.slice o0 l0 c0)) X0):=W0
 have HC0:Hid (∀W,Below B w0 W→B≤W.heap.size→g<W.heap.size∧∀j,j<11→W.cell? ⟨g,0*11+j,none⟩=(nodeC k0 p0 a0 b0 s0 (.slice o0 l0 c0)).toList[j]?):=C0
 have HW1:Hid (Wc B w0 wb 76 (nodeC k1 p1 a1 b1 s1 (.slice o1 l1 c1)) X1):=W1
 have HC1:Hid (∀W,Below B w0 W→B≤W.heap.size→g<W.heap.size∧∀j,j<11→W.cell? ⟨g,1*11+j,none⟩=(nodeC k1 p1 a1 b1 s1 (.slice o1 l1 c1)).toList[j]?):=C1
 have HL:Hid (NR B w0 f (some ⟨g,0,none⟩) us∧(∀x∈us,labOf x=8∨labOf x=208)∧us.length=ln):=⟨by obtain rfl:us=[]:=List.eq_nil_of_length_eq_zero (by omega);exact NR.nil,fun x hx=>.inr (hfs _ (by have:=labs_drop (mm:=2) (cs:=[9,yt]) eks rfl;rw[←this,←hus];exact List.mem_map.2 ⟨x,hx,rfl⟩)),hul⟩
 have HRs:Hid (∀g,g≤f→RN B w0 wb g):=fun g hg=>@hRs g hg
 have HTB:Hid (Tab B w0):=ht
 have hbI:2+(ln:Int)≤20000:=by omega
 subst hul
 clear e0 y0 z0 W0 WO0 WR0 C0
 clear e1 y1 z1 W1 WO1 WR1 C1 eg1
 clear h hne hf hr hg hc hkl hcap hRs hus em hb eks ny hfs hp2 hkc
 have F:=q.f1
 have lg:=(HC0.out _ q.wr.bel q.wr.base).1
 have G0:=kid0 (HC0.out _ q.wr.bel q.wr.base).2
 have G1:=kid1 (HC1.out _ q.wr.bel q.wr.base).2
 obtain⟨nb,hnb⟩:∃nb,nb=w.heap.size:=⟨_,rfl⟩
 go_enter Tryz.func32,Tryz.ntmps32
 go_wp2_with (first
  |(go_at_call 75;refine q.go (fun a1 a2 a3=>HW0.out a1 a2 a3) ?_;clear q F lg G0 G1;intro w2 q;have F:=q.f1;have lg:=(HC0.out _ q.wr.bel q.wr.base).1;have G0:=kid0 (HC0.out _ q.wr.bel q.wr.base).2;have G1:=kid1 (HC1.out _ q.wr.bel q.wr.base).2)
  |(go_at_call 76;refine q.go (fun a1 a2 a3=>HW1.out a1 a2 a3) ?_;clear q F lg G0 G1;intro w2 q;have F:=q.f1;have lg:=(HC0.out _ q.wr.bel q.wr.base).1;have G0:=kid0 (HC0.out _ q.wr.bel q.wr.base).2;have G1:=kid1 (HC1.out _ q.wr.bel q.wr.base).2)
  |(go_at_call 72;refine q.path hs HNT.out ?_;clear q F lg G0 G1;intro w2 q;have F:=q.f1;have lg:=(HC0.out _ q.wr.bel q.wr.base).1;have G0:=kid0 (HC0.out _ q.wr.bel q.wr.base).2;have G1:=kid1 (HC1.out _ q.wr.bel q.wr.base).2)
  |(go_at_call 33;refine q.put ?_;clear q F lg G0 G1;intro w2 q;have F:=q.f1;have lg:=(HC0.out _ q.wr.bel q.wr.base).1;have G0:=kid0 (HC0.out _ q.wr.bel q.wr.base).2;have G1:=kid1 (HC1.out _ q.wr.bel q.wr.base).2))
 rw[←hnb] at q F⊢
 clear hnb
 go_loopg [89] us.length (fun gg u wr=>∃(idx:Nat) (ts:List (List UInt8)),gg=us.length - idx∧u=.int .i64 idx∧idx≤us.length∧Hid (ts++aR (us.map (kdAt f w0)) idx=([105,109,112,108]::(X0++(pth (tl name)::([102,111,114]::(X1++([[123]]))))))++aR (us.map (kdAt f w0)) 0)∧Hid (Sw B w0 w wb bs ts (aR (us.map (kdAt f w0)) idx++[[125]]) wr [(nb,(nodeC 7 pos n m name (.slice (some ⟨g,0,none⟩) (2+us.length) (2+0))))]))
 case atStart=>exact⟨0,_,rfl,rfl,Nat.zero_le _,(by show _=_;simp[aR]),q⟩
 case round=>
  clear q F
  obtain⟨idx,ts,hgk,rfl,hidx,HT,Q⟩:=hrel
  have HG:Hid (gk=us.length - idx):=hgk
  clear hgk
  by_cases hlt:idx<us.length
  ·have hltI:(idx:Int)<(us.length:Int):=by omega
   obtain⟨x,hx⟩:∃x,us[idx]? =some x:=⟨_,List.getElem?_eq_getElem hlt⟩
   obtain⟨gx,ox,hax,hgB,hcell⟩:=HL.out.1.cell idx x hx
   have hmem:=List.mem_of_getElem? hx
   obtain⟨kind2,pos2,n2,m2,name2,ko2,kl2,kc2,rfl,-,-⟩:=(HL.out.1.all x hmem).fields
   have HX:Hid (Nw B w0 f (nodeC kind2 pos2 n2 m2 name2 (.slice ko2 kl2 kc2)).toList∧(labOf (nodeC kind2 pos2 n2 m2 name2 (.slice ko2 kl2 kc2)).toList=8∨labOf (nodeC kind2 pos2 n2 m2 name2 (.slice ko2 kl2 kc2)).toList=208)∧(us.map (kdAt f w0))[idx]? =some (kdAt f w0 (nodeC kind2 pos2 n2 m2 name2 (.slice ko2 kl2 kc2)).toList)):=⟨HL.out.1.all _ hmem,HL.out.2.1 _ hmem,by rw[List.getElem?_map,hx];rfl⟩
   have lift:∀j,j<11→wr.cell? ⟨gx,ox+idx*11+j,none⟩=(nodeC kind2 pos2 n2 m2 name2 (.slice ko2 kl2 kc2)).toList[j]? :=fun j hj=>(Q.out.wr.bel.cell (p:=⟨gx,ox+idx*11+j,none⟩) hgB).trans (hcell j hj)
   have lgx:gx<wr.heap.size:=Nat.lt_of_lt_of_le hgB Q.out.wr.base
   obtain⟨rfl,rfl⟩:g=gx∧0=ox:=by simpa using hax
   have e0:=lift 0 (by decide)
   have e1:=lift 1 (by decide)
   have e2:=lift 2 (by decide)
   have e3:=lift 3 (by decide)
   have e4:=lift 4 (by decide)
   have e5:=lift 5 (by decide)
   have e6:=lift 6 (by decide)
   have e7:=lift 7 (by decide)
   have e8:=lift 8 (by decide)
   have e9:=lift 9 (by decide)
   have e10:=lift 10 (by decide)
   simp only[Nat.add_zero,Nat.zero_add] at e0 e1 e2 e3 e4 e5 e6 e7 e8 e9 e10
   clear lift hcell hx hmem
   obtain⟨T,HW',hT⟩:=fn_open HRs.out HTB.out HX.out.1 HX.out.2.1
   have HW:Hid (Wc B w0 wb 74 (nodeC kind2 pos2 n2 m2 name2 (.slice ko2 kl2 kc2)) T):=HW'
   clear HW'
   obtain⟨KT,hKT⟩:∃KT,KT=T:=⟨_,rfl⟩
   have HKT:Hid (tok f w0 (nodeC kind2 pos2 n2 m2 name2 (.slice ko2 kl2 kc2)).toList=KT):=by show _=_;rw[hKT,hT]
   clear hT
   rcases Nat.eq_zero_or_pos idx with h0|h0
   ·subst h0
    simp only[Nat.zero_mul,Nat.add_zero,Nat.zero_add] at e0 e1 e2 e3 e4 e5 e6 e7 e8 e9 e10
    have st:aR (us.map (kdAt f w0)) 0=KT++(aR (us.map (kdAt f w0)) (0+1)):=by rw[aR_step HX.out.2.2];exact congrArg (fun z=>z++_) HKT.out
    have HE:Hid (ts++([]++(KT++aR (us.map (kdAt f w0)) (0+1)))=([105,109,112,108]::(X0++(pth (tl name)::([102,111,114]::(X1++([[123]]))))))++aR (us.map (kdAt f w0)) 0):=by show _=_;rw[←HT.out,st];simp
    have q:=((Q.out.as (rest':=T++(aR (us.map (kdAt f w0)) (0+1)++[[125]])) (by rw[st,hKT];simp)).box (nodeC kind2 pos2 n2 m2 name2 (.slice ko2 kl2 kc2)))
    have HE2:Hid (ts++((T)++aR (us.map (kdAt f w0)) (0+1))=([105,109,112,108]::(X0++(pth (tl name)::([102,111,114]::(X1++([[123]]))))))++aR (us.map (kdAt f w0)) 0):=by show _=_;rw[←HE.out,hKT];simp
    clear st hKT
    have F:=q.f1
    go_wp2_with (first
     |(go_at_call 74;refine q.go (fun a1 a2 a3=>HW.out a1 a2 a3) ?_;clear q F;intro w2 q;have F:=q.f1)
     |(go_at_call 33;refine q.put ?_;clear q F;intro w2 q;have F:=q.f1))
    go_roundg (us.length - (0+1))
    case measure=>rw[HG.out];omega
    case rel=>exact⟨0+1,_,rfl,by go_num,hlt,(by show _=_;have:=HE2.out;simpa using this),q.pop⟩
   ·have hI:(0:Int)<(idx:Int):=by omega
    have st:aR (us.map (kdAt f w0)) idx=KT++(aR (us.map (kdAt f w0)) (idx+1)):=by rw[aR_step HX.out.2.2];exact congrArg (fun z=>z++_) HKT.out
    have HE:Hid (ts++([]++(KT++aR (us.map (kdAt f w0)) (idx+1)))=([105,109,112,108]::(X0++(pth (tl name)::([102,111,114]::(X1++([[123]]))))))++aR (us.map (kdAt f w0)) 0):=by show _=_;rw[←HT.out,st];simp
    have q:=((Q.out.as (rest':=T++(aR (us.map (kdAt f w0)) (idx+1)++[[125]])) (by rw[st,hKT];simp)).box (nodeC kind2 pos2 n2 m2 name2 (.slice ko2 kl2 kc2)))
    have HE2:Hid (ts++((T)++aR (us.map (kdAt f w0)) (idx+1))=([105,109,112,108]::(X0++(pth (tl name)::([102,111,114]::(X1++([[123]]))))))++aR (us.map (kdAt f w0)) 0):=by show _=_;rw[←HE.out,hKT];simp
    clear st hKT
    have F:=q.f1
    go_wp2_with (first
     |(go_at_call 74;refine q.go (fun a1 a2 a3=>HW.out a1 a2 a3) ?_;clear q F;intro w2 q;have F:=q.f1)
     |(go_at_call 33;refine q.put ?_;clear q F;intro w2 q;have F:=q.f1))
    go_roundg (us.length - (idx+1))
    case measure=>rw[HG.out];omega
    case rel=>exact⟨idx+1,_,rfl,by go_num,hlt,(by show _=_;have:=HE2.out;simpa using this),q.pop⟩
  ·have hltI:¬(idx:Int)<(us.length:Int):=by omega
   obtain rfl:idx=us.length:=by omega
   have e:aR (us.map (kdAt f w0)) us.length=[]:=by have:=aR_end (ks:=(us.map (kdAt f w0)));rwa [List.length_map] at this
   have q:=Q.out.as (rest':=[[125]]) (by rw[e];rfl)
   have HE:Hid (ts=([105,109,112,108]::(X0++(pth (tl name)::([102,111,114]::(X1++([[123]]))))))++aR (us.map (kdAt f w0)) 0):=by show _=_;rw[←HT.out,e,List.append_nil]
   clear e
   have F:=q.f1
   go_wp2_with (go_at_call 33;refine q.put ?_;clear q F;intro w3 q;have F:=q.f1)
   go_end0
   exact q.done (by rw[HE.out];simp[tR,aR])
end
end Go.Proofs.YtagdihffmjopaaaGreatDoor
namespace Go.Proofs.YtagdihffmjopaaaGreatDoor
set_option linter.all false
open Go.RowKit
section
variable{B:Nat} {w0 w:World} {wb f:Nat} {ts0:List (List UInt8)} {kind pos n m:Int} {name:ByteArray} {ko:Option Addr} {kl kc:Nat}
set_option maxRecDepth 100000 in
set_option maxHeartbeats 1000000 in
theorem p27_49 (hR:RP B w0 wb f) (hm:Mx B w0) (ht:Tab B w0) (hx:Nw B w0 (f+1) (nodeC 49 pos n m name (.slice ko kl kc)).toList):Wq B w0 wb 27 (nodeC 49 pos n m name (.slice ko kl kc)) (tok (f+1) w0 (nodeC 49 pos n m name (.slice ko kl kc)).toList):=by
 intro w ts0 h hf
 have hcap:=hx.cap
 obtain⟨vs,hkl,hr,hg,htok,hs,hc⟩:=hx.opened
 rw[htok] at hf⊢
 clear htok hx
 have e:asm 49 n m (name:ByteArray).data.toList (vs.map (kdAt f w0))=[95]::[]:=by
  rfl
 rw[e] at hf⊢
 clear e
 have q:=(Sp.start h hf).box (nodeC 49 pos n m name (.slice ko kl kc))
 clear h hf hr hg hc hkl hcap
 have F:=q.f1
 go_enter Tryz.func27,Tryz.ntmps27
 go_wp2_with (first
  |(go_at_call 47;refine q.put ?_;clear q F;intro w2 q;have F:=q.f1))
 all_goals(go_end0;exact q.done (rfl))
set_option maxRecDepth 100000 in
set_option maxHeartbeats 1000000 in
theorem p27_51 (hR:RP B w0 wb f) (hm:Mx B w0) (ht:Tab B w0) (hx:Nw B w0 (f+1) (nodeC 51 pos n m name (.slice ko kl kc)).toList):Wq B w0 wb 27 (nodeC 51 pos n m name (.slice ko kl kc)) (tok (f+1) w0 (nodeC 51 pos n m name (.slice ko kl kc)).toList):=by
 intro w ts0 h hf
 have hcap:=hx.cap
 obtain⟨vs,hkl,hr,hg,htok,hs,hc⟩:=hx.opened
 rw[htok] at hf⊢
 clear htok hx
 obtain⟨S,hS⟩:∃S:ByteArray,S=⟨(Lib.itoa n).toArray⟩:=⟨_,rfl⟩
 have I60:Hid (∀{W:World},Below B w0 W→Calls Tryz.prog 60 #[.int .i64 n] W (fun e w'=>e=.returned (.string S)∧Below W.heap.size W w')):=fun hb=>by rw[hS];exact itoa60 ht (hg.pint rfl).1 (hg.pint rfl).2 hb
 obtain⟨V,hV⟩:∃V:ByteArray,V=⟨(Lib.trimPrefix S.data.toList [45]).toArray⟩:=⟨_,rfl⟩
 have T69:Hid (∀{W:World},Calls Tryz.prog 69 #[.string S,.string ⟨#[45]⟩] W (fun e w'=>e=.returned (.string V)∧w'=W)):=fun{W}=>by rw[hV];exact Tryz.strings_TrimPrefix S ⟨#[45]⟩ W
 have e:asm 51 n m (name:ByteArray).data.toList (vs.map (kdAt f w0))=pWhen (decide (n<0)) [[45]]++(tl V::[]):=by
  show pWhen (decide (n<0)) [[45]]++[Lib.trimPrefix (Lib.itoa n) [45]]=_;rw[hV,hS];rfl
 rw[e] at hf⊢
 clear e
 have q:=(Sp.start h hf).box (nodeC 51 pos n m name (.slice ko kl kc))
 clear h hf hr hg hc hkl hcap hS hV
 have F:=q.f1
 go_enter Tryz.func27,Tryz.ntmps27
 go_wp2_with (first
  |(go_at_call 56;refine q.when (ss:=[⟨#[45]⟩]) ?_;clear q F;intro w2 q;have F:=q.f1)
  |(go_at_call 60;refine(I60.out q.wr.bel).mono ?_;rintro e w1 ⟨rfl,hb1⟩;replace q:=q.below hb1;clear hb1 F;have F:=q.f1)
  |(go_at_call 69;refine T69.out.mono ?_;rintro e w1 ⟨rfl,hw⟩;replace hw:=hw.symm;subst hw)
  |(go_at_call 47;refine q.put ?_;clear q F;intro w2 q;have F:=q.f1))
 all_goals(go_end0;exact q.done (by simp<;>rfl))
set_option maxRecDepth 100000 in
set_option maxHeartbeats 1000000 in
theorem p27_52 (hR:RP B w0 wb f) (hm:Mx B w0) (ht:Tab B w0) (hx:Nw B w0 (f+1) (nodeC 52 pos n m name (.slice ko kl kc)).toList):Wq B w0 wb 27 (nodeC 52 pos n m name (.slice ko kl kc)) (tok (f+1) w0 (nodeC 52 pos n m name (.slice ko kl kc)).toList):=by
 intro w ts0 h hf
 have hcap:=hx.cap
 obtain⟨vs,hkl,hr,hg,htok,hs,hc⟩:=hx.opened
 rw[htok] at hf⊢
 clear htok hx
 have hb01:=hg.ebool (.inr rfl)
 have e:asm 52 n m (name:ByteArray).data.toList (vs.map (kdAt f w0))=pBool n++[]:=by
  rw[List.append_nil];rfl
 rw[e] at hf⊢
 clear e
 have q:=(Sp.start h hf).box (nodeC 52 pos n m name (.slice ko kl kc))
 have HB:Hid (n=0∨n=1):=hb01
 clear h hf hr hg hc hkl hcap hb01
 have F:=q.f1
 go_enter Tryz.func27,Tryz.ntmps27
 go_wp2_with (first
  |(go_at_call 61;refine q.go (fun a1 a2=>boolean61 n HB.out a1 a2) ?_;clear q F;intro w2 q;have F:=q.f1))
 all_goals(go_end0;exact q.done (by simp<;>rfl))
set_option maxRecDepth 100000 in
set_option maxHeartbeats 1000000 in
theorem p27_53 (hR:RP B w0 wb f) (hm:Mx B w0) (ht:Tab B w0) (hx:Nw B w0 (f+1) (nodeC 53 pos n m name (.slice ko kl kc)).toList):Wq B w0 wb 27 (nodeC 53 pos n m name (.slice ko kl kc)) (tok (f+1) w0 (nodeC 53 pos n m name (.slice ko kl kc)).toList):=by
 intro w ts0 h hf
 have hcap:=hx.cap
 obtain⟨vs,hkl,hr,hg,htok,hs,hc⟩:=hx.opened
 rw[htok] at hf⊢
 clear htok hx
 have hn:=NK.of hr hg (by unfold kidK frK;omega)
 have e:asm 53 n m (name:ByteArray).data.toList (vs.map (kdAt f w0))=pRow [40] [41] (vs.map (kdAt f w0))++[]:=by
  rw[List.append_nil];rfl
 rw[e] at hf⊢
 clear e
 have q:=(Sp.start h hf).box (nodeC 53 pos n m name (.slice ko kl kc))
 have HL:Hid (NK B w0 f ko vs∧vs.length=kl):=⟨hn,hkl⟩
 clear h hf hr hg hc hkl hcap hn
 have F:=q.f1
 go_enter Tryz.func27,Tryz.ntmps27
 go_wp2_with (first
  |(go_at_call 58;refine q.go (fun a1 a2=>row58 hR ⟨#[40]⟩ ⟨#[41]⟩ HL.out.1 HL.out.2 a1 a2) ?_;clear q F;intro w2 q;have F:=q.f1))
 all_goals(go_end0;exact q.done (by simp<;>rfl))
set_option maxRecDepth 100000 in
set_option maxHeartbeats 1000000 in
theorem p27_54a (hR:RP B w0 wb f) (hm:Mx B w0) (ht:Tab B w0) (hz0:kl=0) (hx:Nw B w0 (f+1) (nodeC 54 pos n m name (.slice ko kl kc)).toList):Wq B w0 wb 27 (nodeC 54 pos n m name (.slice ko kl kc)) (tok (f+1) w0 (nodeC 54 pos n m name (.slice ko kl kc)).toList):=by
 intro w ts0 h hf
 have hcap:=hx.cap
 obtain⟨vs,hkl,hr,hg,htok,hs,hc⟩:=hx.opened
 rw[htok] at hf⊢
 clear htok hx
 have hn:=NK.of hr hg (by unfold kidK frK;omega)
 obtain rfl:kl=0:=hz0
 have e:asm 54 n m (name:ByteArray).data.toList (vs.map (kdAt f w0))=pth (tl name)::[]:=by
  show pth (tl name)::pRnd (vs.map (kdAt f w0))=_;rw[pRnd,if_pos (by rw[List.length_map];exact hkl)]
 rw[e] at hf⊢
 clear e
 have q:=(Sp.start h hf).box (nodeC 54 pos n m name (.slice ko 0 kc))
 clear h hf hr hg hc hkl hcap hn
 have F:=q.f1
 go_enter Tryz.func27,Tryz.ntmps27
 go_wp2_with (first
  |(go_at_call 48;refine q.go (fun a1 a2=>path48 hm hs a1 a2) ?_;clear q F;intro w2 q;have F:=q.f1))
 all_goals(go_end0;exact q.done (by simp<;>rfl))
set_option maxRecDepth 100000 in
set_option maxHeartbeats 1000000 in
theorem p27_54b (hR:RP B w0 wb f) (hm:Mx B w0) (ht:Tab B w0) (hz0:0<kl) (hx:Nw B w0 (f+1) (nodeC 54 pos n m name (.slice ko kl kc)).toList):Wq B w0 wb 27 (nodeC 54 pos n m name (.slice ko kl kc)) (tok (f+1) w0 (nodeC 54 pos n m name (.slice ko kl kc)).toList):=by
 intro w ts0 h hf
 have hcap:=hx.cap
 obtain⟨vs,hkl,hr,hg,htok,hs,hc⟩:=hx.opened
 rw[htok] at hf⊢
 clear htok hx
 have hn:=NK.of hr hg (by unfold kidK frK;omega)
 have hI:(0:Int)<(kl:Int):=by omega
 have e:asm 54 n m (name:ByteArray).data.toList (vs.map (kdAt f w0))=pth (tl name)::(pRow [40] [41] (vs.map (kdAt f w0))++[]):=by
  show pth (tl name)::pRnd (vs.map (kdAt f w0))=_;rw[pRnd,if_neg (by rw[List.length_map];omega),List.append_nil]
 rw[e] at hf⊢
 clear e
 have q:=(Sp.start h hf).box (nodeC 54 pos n m name (.slice ko kl kc))
 have HL:Hid (NK B w0 f ko vs∧vs.length=kl):=⟨hn,hkl⟩
 clear h hf hr hg hc hkl hcap hn hz0
 have F:=q.f1
 go_enter Tryz.func27,Tryz.ntmps27
 go_wp2_with (first
  |(go_at_call 48;refine q.go (fun a1 a2=>path48 hm hs a1 a2) ?_;clear q F;intro w2 q;have F:=q.f1)
  |(go_at_call 58;refine q.go (fun a1 a2=>row58 hR ⟨#[40]⟩ ⟨#[41]⟩ HL.out.1 HL.out.2 a1 a2) ?_;clear q F;intro w2 q;have F:=q.f1))
 all_goals(go_end0;exact q.done (by simp<;>rfl))
set_option maxRecDepth 100000 in
set_option maxHeartbeats 1000000 in
theorem p27_5000 (hR:RP B w0 wb f) (hm:Mx B w0) (ht:Tab B w0) (hn2:(n==2)=false) (hm1:(m==1)=false) (hx:Nw B w0 (f+1) (nodeC 50 pos n m name (.slice ko kl kc)).toList):Wq B w0 wb 27 (nodeC 50 pos n m name (.slice ko kl kc)) (tok (f+1) w0 (nodeC 50 pos n m name (.slice ko kl kc)).toList):=by
 intro w ts0 h hf
 have hcap:=hx.cap
 obtain⟨vs,hkl,hr,hg,htok,hs,hc⟩:=hx.opened
 rw[htok] at hf⊢
 clear htok hx
 have h2:(n==2)=false:=hn2
 have h1:(m==1)=false:=hm1
 have e:asm 50 n m (name:ByteArray).data.toList (vs.map (kdAt f w0))=pWhen (decide ((0:Int)<n)) [[114,101,102]]++(pWhen false [[109,117,116]]++(tl name::[])):=by
  show pWhen (decide (0<n)) [[114,101,102]]++(pWhen (n==2||m==1) [[109,117,116]]++[tl name])=_;rw[h2,h1];rfl
 rw[e] at hf⊢
 clear e
 have q:=(Sp.start h hf).box (nodeC 50 pos n m name (.slice ko kl kc))
 clear h hf hr hg hc hkl hcap hn2 hm1
 have F:=q.f1
 go_enter Tryz.func27,Tryz.ntmps27
 go_wp2_with (first
  |(go_at_call 47;refine q.put ?_;clear q F;intro w2 q;have F:=q.f1)
  |(go_at_call 56;refine q.when (ss:=[⟨#[109,117,116]⟩]) ?_;clear q F;intro w2 q;have F:=q.f1)
  |(go_at_call 56;refine q.when (ss:=[⟨#[114,101,102]⟩]) ?_;clear q F;intro w2 q;have F:=q.f1))
 all_goals(go_end0;exact q.done (by simp<;>rfl))
set_option maxRecDepth 100000 in
set_option maxHeartbeats 1000000 in
theorem p27_5001 (hR:RP B w0 wb f) (hm:Mx B w0) (ht:Tab B w0) (hn2:(n==2)=false) (hm1:(m==1)=true) (hx:Nw B w0 (f+1) (nodeC 50 pos n m name (.slice ko kl kc)).toList):Wq B w0 wb 27 (nodeC 50 pos n m name (.slice ko kl kc)) (tok (f+1) w0 (nodeC 50 pos n m name (.slice ko kl kc)).toList):=by
 intro w ts0 h hf
 have hcap:=hx.cap
 obtain⟨vs,hkl,hr,hg,htok,hs,hc⟩:=hx.opened
 rw[htok] at hf⊢
 clear htok hx
 have h2:(n==2)=false:=hn2
 have h1:(m==1)=true:=hm1
 have e:asm 50 n m (name:ByteArray).data.toList (vs.map (kdAt f w0))=pWhen (decide ((0:Int)<n)) [[114,101,102]]++(pWhen true [[109,117,116]]++(tl name::[])):=by
  show pWhen (decide (0<n)) [[114,101,102]]++(pWhen (n==2||m==1) [[109,117,116]]++[tl name])=_;rw[h2,h1];rfl
 rw[e] at hf⊢
 clear e
 have q:=(Sp.start h hf).box (nodeC 50 pos n m name (.slice ko kl kc))
 clear h hf hr hg hc hkl hcap hn2 hm1
 have F:=q.f1
 go_enter Tryz.func27,Tryz.ntmps27
 go_wp2_with (first
  |(go_at_call 47;refine q.put ?_;clear q F;intro w2 q;have F:=q.f1)
  |(go_at_call 56;refine q.when (ss:=[⟨#[109,117,116]⟩]) ?_;clear q F;intro w2 q;have F:=q.f1)
  |(go_at_call 56;refine q.when (ss:=[⟨#[114,101,102]⟩]) ?_;clear q F;intro w2 q;have F:=q.f1))
 all_goals(go_end0;exact q.done (by simp<;>rfl))
set_option maxRecDepth 100000 in
set_option maxHeartbeats 1000000 in
theorem p27_5010 (hR:RP B w0 wb f) (hm:Mx B w0) (ht:Tab B w0) (hn2:(n==2)=true) (hx:Nw B w0 (f+1) (nodeC 50 pos n m name (.slice ko kl kc)).toList):Wq B w0 wb 27 (nodeC 50 pos n m name (.slice ko kl kc)) (tok (f+1) w0 (nodeC 50 pos n m name (.slice ko kl kc)).toList):=by
 intro w ts0 h hf
 have hcap:=hx.cap
 obtain⟨vs,hkl,hr,hg,htok,hs,hc⟩:=hx.opened
 rw[htok] at hf⊢
 clear htok hx
 obtain rfl:n=2:=by simpa using hn2
 have e:asm 50 2 m (name:ByteArray).data.toList (vs.map (kdAt f w0))=pWhen (decide ((0:Int)<2)) [[114,101,102]]++(pWhen true [[109,117,116]]++(tl name::[])):=by
  show pWhen (decide (0<2)) [[114,101,102]]++(pWhen (2==2||m==1) [[109,117,116]]++[tl name])=_;rfl
 rw[e] at hf⊢
 clear e
 have q:=(Sp.start h hf).box (nodeC 50 pos 2 m name (.slice ko kl kc))
 clear h hf hr hg hc hkl hcap hn2
 have F:=q.f1
 go_enter Tryz.func27,Tryz.ntmps27
 go_wp2_with (first
  |(go_at_call 47;refine q.put ?_;clear q F;intro w2 q;have F:=q.f1)
  |(go_at_call 56;refine q.when (ss:=[⟨#[109,117,116]⟩]) ?_;clear q F;intro w2 q;have F:=q.f1)
  |(go_at_call 56;refine q.when (ss:=[⟨#[114,101,102]⟩]) ?_;clear q F;intro w2 q;have F:=q.f1))
 all_goals(go_end0;exact q.done (by simp<;>rfl))
end
end Go.Proofs.YtagdihffmjopaaaGreatDoor
