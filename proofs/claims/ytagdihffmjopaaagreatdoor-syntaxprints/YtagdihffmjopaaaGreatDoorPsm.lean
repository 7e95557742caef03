/- The project's writer: nodes of every kind. -/
import Derived.Test.YtagdihffmjopaaaGreatDoorPta
import Derived.Test.YtagdihffmjopaaaGreatDoorPsg
import Derived.Test.YtagdihffmjopaaaGreatDoorPsh
import Derived.Test.YtagdihffmjopaaaGreatDoorPsi
import Derived.Test.YtagdihffmjopaaaGreatDoorPsj
import Derived.Test.YtagdihffmjopaaaGreatDoorPsk
namespace Go.Proofs.YtagdihffmjopaaaGreatDoor
set_option linter.all false
open Go.RowKit
section
variable{B:Nat} {w0 w:World} {wb f:Nat} {ts0:List (List UInt8)} {kind pos n m:Int} {name:ByteArray} {ko:Option Addr} {kl kc:Nat}
set_option maxRecDepth 100000 in
set_option maxHeartbeats 1000000 in
theorem p53_7 (hR:RP B w0 wb f) (hm:Mx B w0) (ht:Tab B w0) (hx:Nw B w0 (f+1) (nodeC 7 pos n m name (.slice ko kl kc)).toList):Wq B w0 wb 53 (nodeC 7 pos n m name (.slice ko kl kc)) (tok (f+1) w0 (nodeC 7 pos n m name (.slice ko kl kc)).toList):=by
 intro w ts0 h hf
 have hcap:=hx.cap
 obtain⟨vs,hkl,hr,hg,htok,hs,hc⟩:=hx.opened
 rw[htok] at hf⊢
 clear htok hx
 have hn:=NK.of hr hg (by unfold kidK frK;omega)
 have:2≤kl:=by
  obtain⟨-,y,zs,eks,-,-⟩:=hg.impl rfl
  have:=congrArg List.length eks
  simp at this;omega
 obtain⟨l2,rfl⟩:∃l2,kl=2+l2:=⟨kl - 2,by omega⟩
 obtain⟨cz,rfl⟩:∃cz,kc=2+cz:=⟨kc - 2,by omega⟩
 obtain⟨k0,p0,a0,b0,s0,o0,l0,c0,g,X0,Y0,Z0,e0,y0,z0,rfl,W0,WO0,WR0,C0⟩:=kid_p hR hn hc (i:=0) (by omega)
 obtain⟨k1,p1,a1,b1,s1,o1,l1,c1,g1,X1,Y1,Z1,e1,y1,z1,eg1,W1,WO1,WR1,C1⟩:=kid_p hR hn hc (i:=1) (by omega)
 obtain rfl:g=g1:=by simpa using eg1
 obtain⟨us,hus⟩:∃us,us=vs.drop 2:=⟨_,rfl⟩
 have hul:us.length=l2:=by rw[hus,List.length_drop];omega
 have em:(vs.map (kdAt f w0)).drop 2=us.map (kdAt f w0):=by rw[hus,List.map_drop]
 have hb:=hn.row.few
 rw[hkl] at hb
 have e:asm 7 n m (name:ByteArray).data.toList (vs.map (kdAt f w0))=[105,109,112,108]::(X0++(pth (tl name)::([102,111,114]::(X1++([123]::(pAll (us.map (kdAt f w0))++[[125]])))))):=by
  show [105,109,112,108]::((kd (vs.map (kdAt f w0)) 0).t++(pth (tl name)::([102,111,114]::((kd (vs.map (kdAt f w0)) 1).t++([123]::(pAll ((vs.map (kdAt f w0)).drop 2)++[[125]]))))))=_;rw[e0,e1,em]
 rw[e] at hf⊢
 clear e
 have q:=(Sp.start h hf).box (nodeC 7 pos n m name (.slice (some ⟨g,0,none⟩) (2+l2) (2+cz)))
 have HW0:Hid (Wq B w0 wb 14 (nodeC k0 p0 a0 b0 s0 (.slice o0 l0 c0)) X0):=W0
 have HC0:Hid (∀W,Below B w0 W→B≤W.heap.size→g<W.heap.size∧∀j,j<11→W.cell? ⟨g,0*11+j,none⟩=(nodeC k0 p0 a0 b0 s0 (.slice o0 l0 c0)).toList[j]?):=C0
 have HW1:Hid (Wq B w0 wb 14 (nodeC k1 p1 a1 b1 s1 (.slice o1 l1 c1)) X1):=W1
 have HC1:Hid (∀W,Below B w0 W→B≤W.heap.size→g<W.heap.size∧∀j,j<11→W.cell? ⟨g,1*11+j,none⟩=(nodeC k1 p1 a1 b1 s1 (.slice o1 l1 c1)).toList[j]?):=C1
 have HL:Hid (NK B w0 f (some ⟨g,22,none⟩) us∧us.length=l2):=⟨by have:=hn.drop 2;rw[←hus] at this;simpa using this,hul⟩
 have HZ:Hid (∀a,cz=0→NK B w0 f a us):=fun a hz=>by
  obtain rfl:us=[]:=List.eq_nil_of_length_eq_zero (by omega)
  exact NK.nil
 have hbI:2+(l2:Int)≤20000:=by omega
 have hcI:(l2:Int)≤(cz:Int):=by omega
 clear e0 y0 z0 W0 WO0 WR0 C0
 clear e1 y1 z1 W1 WO1 WR1 C1 eg1
 clear h hf hr hg hc hkl hcap hn hus hul em hb
 have F:=q.f1
 have lg:=(HC0.out _ q.wr.bel q.wr.base).1
 have G0:=kid0 (HC0.out _ q.wr.bel q.wr.base).2
 have G1:=kid1 (HC1.out _ q.wr.bel q.wr.base).2
 go_enter Tryz.func53,Tryz.ntmps53
 go_wp2_with (first
  |(go_at_call 47;refine q.put ?_;clear q F lg G0 G1;intro w2 q;have F:=q.f1;have lg:=(HC0.out _ q.wr.bel q.wr.base).1;have G0:=kid0 (HC0.out _ q.wr.bel q.wr.base).2;have G1:=kid1 (HC1.out _ q.wr.bel q.wr.base).2)
  |(go_at_call 48;refine q.go (fun a1 a2=>path48 hm hs a1 a2) ?_;clear q F lg G0 G1;intro w2 q;have F:=q.f1;have lg:=(HC0.out _ q.wr.bel q.wr.base).1;have G0:=kid0 (HC0.out _ q.wr.bel q.wr.base).2;have G1:=kid1 (HC1.out _ q.wr.bel q.wr.base).2)
  |(go_at_call 46;refine q.go (fun a1 a2=>nodes46 hR (HZ.out _ (by first|rfl|assumption|omega)) HL.out.2 a1 a2) ?_;clear q F lg G0 G1;intro w2 q;have F:=q.f1;have lg:=(HC0.out _ q.wr.bel q.wr.base).1;have G0:=kid0 (HC0.out _ q.wr.bel q.wr.base).2;have G1:=kid1 (HC1.out _ q.wr.bel q.wr.base).2)
  |(go_at_call 46;refine q.go (fun a1 a2=>nodes46 hR HL.out.1 HL.out.2 a1 a2) ?_;clear q F lg G0 G1;intro w2 q;have F:=q.f1;have lg:=(HC0.out _ q.wr.bel q.wr.base).1;have G0:=kid0 (HC0.out _ q.wr.bel q.wr.base).2;have G1:=kid1 (HC1.out _ q.wr.bel q.wr.base).2)
  |(go_at_call 14;refine q.go (fun a1 a2=>HW1.out a1 a2) ?_;clear q F lg G0 G1;intro w2 q;have F:=q.f1;have lg:=(HC0.out _ q.wr.bel q.wr.base).1;have G0:=kid0 (HC0.out _ q.wr.bel q.wr.base).2;have G1:=kid1 (HC1.out _ q.wr.bel q.wr.base).2)
  |(go_at_call 14;refine q.go (fun a1 a2=>HW0.out a1 a2) ?_;clear q F lg G0 G1;intro w2 q;have F:=q.f1;have lg:=(HC0.out _ q.wr.bel q.wr.base).1;have G0:=kid0 (HC0.out _ q.wr.bel q.wr.base).2;have G1:=kid1 (HC1.out _ q.wr.bel q.wr.base).2))
 all_goals(go_end0;exact q.done (by simp<;>rfl))
set_option maxRecDepth 100000 in
set_option maxHeartbeats 1000000 in
theorem p54_8 (hR:RP B w0 wb f) (hm:Mx B w0) (ht:Tab B w0) (hx:Nw B w0 (f+1) (nodeC 8 pos n m name (.slice ko kl kc)).toList):Wq B w0 wb 54 (nodeC 8 pos n m name (.slice ko kl kc)) (tok (f+1) w0 (nodeC 8 pos n m name (.slice ko kl kc)).toList):=by
 intro w ts0 h hf
 have hcap:=hx.cap
 obtain⟨vs,hkl,hr,hg,htok,hs,hc⟩:=hx.opened
 rw[htok] at hf⊢
 clear htok hx
 have hn:=NK.of hr hg (by unfold kidK frK;omega)
 obtain⟨nn,rfl,hkn⟩:∃nn:Nat,n=(nn:Int)∧2+nn≤kl:=by
  obtain⟨-,ps,y,rest,eks,hpl,-,-,-,-⟩:=hg.fn rfl
  have:=congrArg List.length eks
  simp at this
  exact⟨ps.length,hpl.symm,by omega⟩
 obtain⟨l2,rfl⟩:∃l2,kl=2+nn+l2:=⟨kl - (2+nn),by omega⟩
 obtain⟨cz,rfl⟩:∃cz,kc=2+nn+cz:=⟨kc - (2+nn),by omega⟩
 obtain⟨k0,p0,a0,b0,s0,o0,l0,c0,g,X0,Y0,Z0,e0,y0,z0,rfl,W0,WO0,WR0,C0⟩:=kid_p hR hn hc (i:=0) (by omega)
 obtain⟨k1,p1,a1,b1,s1,o1,l1,c1,g1,X1,Y1,Z1,e1,y1,z1,eg1,W1,WO1,WR1,C1⟩:=kid_p hR hn hc (i:=(1+nn)) (by omega)
 obtain rfl:g=g1:=by simpa using eg1
 obtain⟨vt,hvt⟩:∃vt,vt=(vs.drop 1).take nn:=⟨_,rfl⟩
 have hvl:vt.length=nn:=by rw[hvt,List.length_take,List.length_drop];omega
 have em2:((vs.map (kdAt f w0)).drop 1).take nn=vt.map (kdAt f w0):=by rw[hvt,List.map_take,List.map_drop]
 obtain⟨us,hus⟩:∃us,us=vs.drop (2+nn):=⟨_,rfl⟩
 have hul:us.length=l2:=by rw[hus,List.length_drop];omega
 have em:(vs.map (kdAt f w0)).drop (2+nn)=us.map (kdAt f w0):=by rw[hus,List.map_drop]
 have hb:=hn.row.few
 rw[hkl] at hb
 have e:asm 8 nn m (name:ByteArray).data.toList (vs.map (kdAt f w0))=pWhen (m==1) [[112,117,98]]++([[102,110],tl name]++(X0++(pRow [40] [41] (vt.map (kdAt f w0))++(Z1++(pAll (us.map (kdAt f w0))++[]))))):=by
  show pWhen (m==1) [[112,117,98]]++([102,110]::tl name::((kd (vs.map (kdAt f w0)) 0).t++(pRow [40] [41] (((vs.map (kdAt f w0)).drop 1).take (nn:Int).toNat)++(pRes (kd (vs.map (kdAt f w0)) (1+(nn:Int).toNat))++pAll ((vs.map (kdAt f w0)).drop (2+(nn:Int).toNat))))))=_;rw[Int.toNat_natCast,em,em2,e0,e1,z1,List.append_nil];rfl
 rw[e] at hf⊢
 clear e
 have q:=(Sp.start h hf).box (nodeC 8 pos nn m name (.slice (some ⟨g,0,none⟩) (2+nn+l2) (2+nn+cz)))
 have HW0:Hid (Wq B w0 wb 14 (nodeC k0 p0 a0 b0 s0 (.slice o0 l0 c0)) X0):=W0
 have HC0:Hid (∀W,Below B w0 W→B≤W.heap.size→g<W.heap.size∧∀j,j<11→W.cell? ⟨g,0*11+j,none⟩=(nodeC k0 p0 a0 b0 s0 (.slice o0 l0 c0)).toList[j]?):=C0
 have HWR1:Hid (Wq B w0 wb 88 (nodeC k1 p1 a1 b1 s1 (.slice o1 l1 c1)) Z1):=WR1
 have HC1:Hid (∀W,Below B w0 W→B≤W.heap.size→g<W.heap.size∧∀j,j<11→W.cell? ⟨g,(1+nn)*11+j,none⟩=(nodeC k1 p1 a1 b1 s1 (.slice o1 l1 c1)).toList[j]?):=C1
 have HL:Hid (NK B w0 f (some ⟨g,(1+nn+1)*11,none⟩) us∧us.length=2+nn+l2 - (1+nn+1)):=⟨by have:=hn.drop (2+nn);rw[←hus,Nat.zero_add,show 2+nn=1+nn+1 by omega] at this;exact this,by omega⟩
 have HZ:Hid (∀a,cz=0→NK B w0 f a us):=fun a hz=>by
  obtain rfl:us=[]:=List.eq_nil_of_length_eq_zero (by omega)
  exact NK.nil
 have HT:Hid (NK B w0 f (some ⟨g,11,none⟩) vt∧vt.length=nn):=⟨by have:=(hn.drop 1).take nn;rw[←hvt] at this;simpa using this,hvl⟩
 have hbI:2+(nn:Int)+(l2:Int)≤20000:=by omega
 have hcI:(l2:Int)≤(cz:Int):=by omega
 clear e0 y0 z0 W0 WO0 WR0 C0
 clear e1 y1 z1 W1 WO1 WR1 C1 eg1
 clear h hf hr hg hc hkl hcap hn hus hul em hb hvt hvl em2
 have F:=q.f1
 have lg:=(HC0.out _ q.wr.bel q.wr.base).1
 have G0:=kid0 (HC0.out _ q.wr.bel q.wr.base).2
 have G1:=kidn (HC1.out _ q.wr.bel q.wr.base).2
 go_enter Tryz.func54,Tryz.ntmps54
 go_wp2_with (first
  |(go_at_call 56;refine q.when (ss:=[⟨#[112,117,98]⟩]) ?_;clear q F lg G0 G1;intro w2 q;have F:=q.f1;have lg:=(HC0.out _ q.wr.bel q.wr.base).1;have G0:=kid0 (HC0.out _ q.wr.bel q.wr.base).2;have G1:=kidn (HC1.out _ q.wr.bel q.wr.base).2)
  |(go_at_call 47;refine q.puts (ss:=[⟨#[102,110]⟩,name]) (hg:=by first|rfl|simp) (ho:=rfl) (hX:=rfl) (hn:=rfl) (hl:=by decide) ?_;clear q F lg G0 G1;intro w2 q;have F:=q.f1;have lg:=(HC0.out _ q.wr.bel q.wr.base).1;have G0:=kid0 (HC0.out _ q.wr.bel q.wr.base).2;have G1:=kidn (HC1.out _ q.wr.bel q.wr.base).2)
  |(go_at_call 46;refine q.go (fun a1 a2=>nodes46 hR (HZ.out _ (by first|rfl|assumption|omega)) HL.out.2 a1 a2) ?_;clear q F lg G0 G1;intro w2 q;have F:=q.f1;have lg:=(HC0.out _ q.wr.bel q.wr.base).1;have G0:=kid0 (HC0.out _ q.wr.bel q.wr.base).2;have G1:=kidn (HC1.out _ q.wr.bel q.wr.base).2)
  |(go_at_call 46;refine q.go (fun a1 a2=>nodes46 hR HL.out.1 HL.out.2 a1 a2) ?_;clear q F lg G0 G1;intro w2 q;have F:=q.f1;have lg:=(HC0.out _ q.wr.bel q.wr.base).1;have G0:=kid0 (HC0.out _ q.wr.bel q.wr.base).2;have G1:=kidn (HC1.out _ q.wr.bel q.wr.base).2)
  |(go_at_call 58;refine q.go (fun a1 a2=>row58 hR ⟨#[40]⟩ ⟨#[41]⟩ HT.out.1 HT.out.2 a1 a2) ?_;clear q F lg G0 G1;intro w2 q;have F:=q.f1;have lg:=(HC0.out _ q.wr.bel q.wr.base).1;have G0:=kid0 (HC0.out _ q.wr.bel q.wr.base).2;have G1:=kidn (HC1.out _ q.wr.bel q.wr.base).2)
  |(go_at_call 14;refine q.go (fun a1 a2=>HW0.out a1 a2) ?_;clear q F lg G0 G1;intro w2 q;have F:=q.f1;have lg:=(HC0.out _ q.wr.bel q.wr.base).1;have G0:=kid0 (HC0.out _ q.wr.bel q.wr.base).2;have G1:=kidn (HC1.out _ q.wr.bel q.wr.base).2)
  |(go_at_call 88;refine q.go (fun a1 a2=>HWR1.out a1 a2) ?_;clear q F lg G0 G1;intro w2 q;have F:=q.f1;have lg:=(HC0.out _ q.wr.bel q.wr.base).1;have G0:=kid0 (HC0.out _ q.wr.bel q.wr.base).2;have G1:=kidn (HC1.out _ q.wr.bel q.wr.base).2))
 all_goals(go_end0;exact q.done (by simp<;>rfl))
set_option maxRecDepth 100000 in
set_option maxHeartbeats 2000000 in
theorem trait52 (hR:RP B w0 wb f) {ks:List (List Value)} (r:NK B w0 f ko ks) (h:Pw B w0 w wb ts0) (hf:(ts0++(pWhen (m==1) [[112,117,98]]++([[116,114,97,105,116],tl name,[123]]++(((ks.map (kdAt f w0)).map (fun k:Kd=>k.t++[[59]])).flatten++[[125]])))).length≤1099511627776):Calls Tryz.prog 52 #[.pointer (some ⟨wb,0,none⟩),.agg (nodeC 6 pos n m name (.slice ko ks.length kc))] w (PP B w0 w wb ts0 (pWhen (m==1) [[112,117,98]]++([[116,114,97,105,116],tl name,[123]]++(((ks.map (kdAt f w0)).map (fun k:Kd=>k.t++[[59]])).flatten++[[125]])))):=by
 have H:Hid (NK B w0 f ko ks):=r
 have q:=(Sp.start h hf).box (nodeC 6 pos n m name (.slice ko ks.length kc))
 have hfew:=r.row.few
 have F:=q.f1
 obtain⟨nb,hnb⟩:∃nb,nb=w.heap.size:=⟨_,rfl⟩
 clear r h hf
 go_enter Tryz.func52,Tryz.ntmps52
 go_wp2_with (first|(go_at_call 47;refine q.puts (ss:=[⟨#[116,114,97,105,116]⟩,name,⟨#[123]⟩]) (hg:=by first|rfl|simp) (ho:=rfl) (hX:=rfl) (hn:=rfl) (hl:=by decide) ?_;clear q F;intro w1 q;have F:=q.f1)|(go_at_call 56;refine q.when (ss:=[⟨#[112,117,98]⟩]) ?_;clear q F;intro w1 q;have F:=q.f1))
 rw[←hnb] at q F⊢
 clear hnb
 go_loopg [20] ks.length (fun gg u wr=>∃(idx:Nat) (ts:List (List UInt8)),gg=ks.length - idx∧u=.int .i64 idx∧idx≤ks.length∧Hid (ts++((((ks.map (kdAt f w0))).drop idx).map (fun k:Kd=>k.t++[[59]])).flatten=pWhen (m==1) [[112,117,98]]++[[116,114,97,105,116],tl name,[123]]++((ks.map (kdAt f w0)).map (fun k:Kd=>k.t++[[59]])).flatten)∧Hid (Sp B w0 w wb ts0 ts (((((ks.map (kdAt f w0))).drop idx).map (fun k:Kd=>k.t++[[59]])).flatten++[[125]]) wr [(nb,(nodeC 6 pos n m name (.slice ko ks.length kc)))]))
 case atStart=>exact⟨0,[]++pWhen (m==1) [[112,117,98]]++[[116,114,97,105,116],tl name,[123]],rfl,rfl,Nat.zero_le _,(by show _=_;simp),q⟩
 case round=>
  clear q F
  obtain⟨idx,ts,hgk,rfl,hidx,HT,Q⟩:=hrel
  have HG:Hid (gk=ks.length - idx):=hgk
  clear hgk
  have F:=Q.out.f1
  by_cases hlt:idx<ks.length
  ·have hltI:(idx:Int)<(ks.length:Int):=by omega
   obtain⟨x,hx⟩:∃x,ks[idx]? =some x:=⟨_,List.getElem?_eq_getElem hlt⟩
   obtain⟨g,o,rfl,hgB,hcell⟩:=H.out.row.cell idx x hx
   have hmem:=List.mem_of_getElem? hx
   obtain⟨kind2,pos2,n2,m2,name2,ko2,kl2,kc2,rfl,-,-⟩:=(H.out.row.all x hmem).fields
   have HX:Hid (Nw B w0 f (nodeC kind2 pos2 n2 m2 name2 (.slice ko2 kl2 kc2)).toList∧okL (labOf (nodeC kind2 pos2 n2 m2 name2 (.slice ko2 kl2 kc2)).toList)∧(ks.map (kdAt f w0))[idx]? =some (kdAt f w0 (nodeC kind2 pos2 n2 m2 name2 (.slice ko2 kl2 kc2)).toList)):=⟨H.out.row.all _ hmem,H.out.ok _ hmem,by rw[List.getElem?_map,hx];rfl⟩
   have lift:∀j,j<11→wr.cell? ⟨g,o+idx*11+j,none⟩=(nodeC kind2 pos2 n2 m2 name2 (.slice ko2 kl2 kc2)).toList[j]? :=fun j hj=>(Q.out.wr.bel.cell (p:=⟨g,o+idx*11+j,none⟩) hgB).trans (hcell j hj)
   have lg:g<wr.heap.size:=Nat.lt_of_lt_of_le hgB Q.out.wr.base
   have e0:=lift 0 (by decide)
   have e1:=lift 1 (by decide)
   have e2:=lift 2 (by decide)
   have e3:=lift 3 (by decide)
   have e4:=lift 4 (by decide)
   have e5:=lift 5 (by decide)
   have e6:=lift 6 (by decide)
   have e7:=lift 7 (by decide)
   have e8:=lift 8 (by decide)
   have e9:=lift 9 (by decide)
   have e10:=lift 10 (by decide)
   simp only[Nat.add_zero] at e0
   clear lift hcell hx hmem
   have st:((((ks.map (kdAt f w0))).drop idx).map (fun k:Kd=>k.t++[[59]])).flatten=(kdAt f w0 (nodeC kind2 pos2 n2 m2 name2 (.slice ko2 kl2 kc2)).toList).t++([59]::((((ks.map (kdAt f w0))).drop (idx+1)).map (fun k:Kd=>k.t++[[59]])).flatten):=by
    have e:(ks.map (kdAt f w0)).drop idx=kdAt f w0 (nodeC kind2 pos2 n2 m2 name2 (.slice ko2 kl2 kc2)).toList::(ks.map (kdAt f w0)).drop (idx+1):=by
     rw[List.drop_eq_getElem_cons (List.getElem?_eq_some_iff.1 HX.out.2.2).1,(List.getElem?_eq_some_iff.1 HX.out.2.2).2]
    rw[e]
    simp
   have st2:((((ks.map (kdAt f w0))).drop idx).map (fun k:Kd=>k.t++[[59]])).flatten++[[125]]=(kdAt f w0 (nodeC kind2 pos2 n2 m2 name2 (.slice ko2 kl2 kc2)).toList).t++([59]::(((((ks.map (kdAt f w0))).drop (idx+1)).map (fun k:Kd=>k.t++[[59]])).flatten++[[125]])):=by rw[st];simp
   have HE:Hid (ts++(kdAt f w0 (nodeC kind2 pos2 n2 m2 name2 (.slice ko2 kl2 kc2)).toList).t++[[59]]++((((ks.map (kdAt f w0))).drop (idx+1)).map (fun k:Kd=>k.t++[[59]])).flatten=pWhen (m==1) [[112,117,98]]++[[116,114,97,105,116],tl name,[123]]++((ks.map (kdAt f w0)).map (fun k:Kd=>k.t++[[59]])).flatten):=by show _=_;rw[←HT.out,st];simp
   have q:=((Q.out.as st2).box (nodeC kind2 pos2 n2 m2 name2 (.slice ko2 kl2 kc2)))
   clear st st2 F
   have F:=q.f2
   go_wp2_with (first|(go_at_call 47;refine q.put ?_;clear q F;intro w3 q;have F:=q.f2)|(go_at_call 14;refine q.go (fun a1 a2=>hR HX.out.1 HX.out.2.1 a1 a2) ?_;clear q F;intro w2 q;have F:=q.f2))
   go_roundg (ks.length - (idx+1))
   case measure=>rw[HG.out];omega
   case rel=>exact⟨idx+1,_,rfl,by go_num,hlt,HE.out,q.pop⟩
  ·have hltI:¬(idx:Int)<(ks.length:Int):=by omega
   obtain rfl:idx=ks.length:=by omega
   have e:((((ks.map (kdAt f w0))).drop ks.length).map (fun k:Kd=>k.t++[[59]])).flatten=[]:=by rw[List.drop_of_length_le (by rw[List.length_map];exact Nat.le_refl _)];rfl
   have q:=Q.out.as (rest':=[125]::[]) (by rw[e];rfl)
   have HE:Hid (ts=pWhen (m==1) [[112,117,98]]++[[116,114,97,105,116],tl name,[123]]++((ks.map (kdAt f w0)).map (fun k:Kd=>k.t++[[59]])).flatten):=by show _=_;rw[←HT.out,e,List.append_nil]
   clear e
   go_wp2_with (go_at_call 47;refine q.put ?_;clear q;intro w3 q)
   go_end0
   exact q.done (by rw[HE.out];simp)
theorem p52_6 (hR:RP B w0 wb f) (hx:Nw B w0 (f+1) (nodeC 6 pos n m name (.slice ko kl kc)).toList):Wq B w0 wb 52 (nodeC 6 pos n m name (.slice ko kl kc)) (tok (f+1) w0 (nodeC 6 pos n m name (.slice ko kl kc)).toList):=by
 intro w ts0 h hf
 obtain⟨vs,hkl,hr,hg,htok,hs,hc⟩:=hx.opened
 rw[htok] at hf⊢
 subst hkl
 exact trait52 hR (NK.of hr hg (by unfold kidK frK;omega)) h hf
end
end Go.Proofs.YtagdihffmjopaaaGreatDoor
namespace Go.Proofs.YtagdihffmjopaaaGreatDoor
set_option linter.all false
open Go.RowKit
section
variable{B:Nat} {w0 w:World} {wb f:Nat} {ts0:List (List UInt8)} {kind pos n m:Int} {name:ByteArray} {ko:Option Addr} {kl kc:Nat}
set_option maxRecDepth 100000 in
set_option maxHeartbeats 1000000 in
theorem d14_ki (h12:kind≤12) {T:List (List UInt8)} (HP:Wq B w0 wb 24 (nodeC kind pos n m name (.slice ko kl kc)) T):Wq B w0 wb 14 (nodeC kind pos n m name (.slice ko kl kc)) T:=by
 intro w ts0 h hf
 have q:=((Sp.start h hf).as (rest':=T++[]) (by simp)).box (nodeC kind pos n m name (.slice ko kl kc))
 have H:Hid (Wq B w0 wb 24 (nodeC kind pos n m name (.slice ko kl kc)) T):=HP
 clear h hf HP
 have F:=q.f1
 go_enter Tryz.func14,Tryz.ntmps14
 go_wp2_with (go_at_call 24;refine q.go (fun a1 a2=>H.out a1 a2) ?_;clear q F;intro w2 q;have F:=q.f1)
 go_end0
 exact q.done (by simp)
set_option maxRecDepth 100000 in
set_option maxHeartbeats 1000000 in
theorem d14_kt (h12:¬kind≤12) (h19:kind≤19) {T:List (List UInt8)} (HP:Wq B w0 wb 25 (nodeC kind pos n m name (.slice ko kl kc)) T):Wq B w0 wb 14 (nodeC kind pos n m name (.slice ko kl kc)) T:=by
 intro w ts0 h hf
 have q:=((Sp.start h hf).as (rest':=T++[]) (by simp)).box (nodeC kind pos n m name (.slice ko kl kc))
 have H:Hid (Wq B w0 wb 25 (nodeC kind pos n m name (.slice ko kl kc)) T):=HP
 clear h hf HP
 have F:=q.f1
 go_enter Tryz.func14,Tryz.ntmps14
 go_wp2_with (go_at_call 25;refine q.go (fun a1 a2=>H.out a1 a2) ?_;clear q F;intro w2 q;have F:=q.f1)
 go_end0
 exact q.done (by simp)
set_option maxRecDepth 100000 in
set_option maxHeartbeats 1000000 in
theorem d14_ke (h12:¬kind≤12) (h19:¬kind≤19) (h49:kind<49) {T:List (List UInt8)} (HP:Wq B w0 wb 26 (nodeC kind pos n m name (.slice ko kl kc)) T):Wq B w0 wb 14 (nodeC kind pos n m name (.slice ko kl kc)) T:=by
 intro w ts0 h hf
 have q:=((Sp.start h hf).as (rest':=T++[]) (by simp)).box (nodeC kind pos n m name (.slice ko kl kc))
 have H:Hid (Wq B w0 wb 26 (nodeC kind pos n m name (.slice ko kl kc)) T):=HP
 clear h hf HP
 have F:=q.f1
 go_enter Tryz.func14,Tryz.ntmps14
 go_wp2_with (go_at_call 26;refine q.go (fun a1 a2=>H.out a1 a2) ?_;clear q F;intro w2 q;have F:=q.f1)
 go_end0
 exact q.done (by simp)
set_option maxRecDepth 100000 in
set_option maxHeartbeats 1000000 in
theorem d14_kp (h12:¬kind≤12) (h19:¬kind≤19) (h49:¬kind<49) {T:List (List UInt8)} (HP:Wq B w0 wb 27 (nodeC kind pos n m name (.slice ko kl kc)) T):Wq B w0 wb 14 (nodeC kind pos n m name (.slice ko kl kc)) T:=by
 intro w ts0 h hf
 have q:=((Sp.start h hf).as (rest':=T++[]) (by simp)).box (nodeC kind pos n m name (.slice ko kl kc))
 have H:Hid (Wq B w0 wb 27 (nodeC kind pos n m name (.slice ko kl kc)) T):=HP
 clear h hf HP
 have F:=q.f1
 go_enter Tryz.func14,Tryz.ntmps14
 go_wp2_with (go_at_call 27;refine q.go (fun a1 a2=>H.out a1 a2) ?_;clear q F;intro w2 q;have F:=q.f1)
 go_end0
 exact q.done (by simp)
theorem nm_cases (name:ByteArray):(name.data.toList.length !=0)=false∨(name.data.toList.length !=0)=true:=by
 cases(name.data.toList.length !=0)<;>simp
theorem RP.up (hR:RP B w0 wb f) (hm:Mx B w0) (ht:Tab B w0) (hx:Nw B w0 (f+1) (nodeC kind pos n m name (.slice ko kl kc)).toList) (h0:0≤kind) (h1:kind≤54):Wq B w0 wb 14 (nodeC kind pos n m name (.slice ko kl kc)) (tok (f+1) w0 (nodeC kind pos n m name (.slice ko kl kc)).toList):=by
 obtain⟨vs,hkl,hr,hg,-,-,-⟩:=hx.opened
 by_cases gi:0≤kind∧kind≤12
 ·have W:∀{T:List (List UInt8)},Wq B w0 wb 24 (nodeC kind pos n m name (.slice ko kl kc)) T→Wq B w0 wb 14 (nodeC kind pos n m name (.slice ko kl kc)) T:=fun HP=>d14_ki (by omega) HP
  by_cases k0:kind=0
  ·subst k0
   exact W (p24_0 hR hm ht hx)
  by_cases k1:kind=1
  ·subst k1
   exact W (p24_1 hR hm ht hx)
  by_cases k2:kind=2
  ·subst k2
   exact W (p24_2 hR hm ht hx)
  by_cases k3:kind=3
  ·subst k3
   obtain⟨hmm,hnn⟩:=hg.data rfl
   have hn':n=0∨n=1:=by rcases hnn with⟨h,-⟩|⟨h,-⟩<;>omega
   have hm':m=0∨m=1∨m=2∨m=3:=by omega
   rcases hn' with hn'|hn'<;>rcases hm' with hm'|hm'|hm'|hm'
   ·exact W (d24_3 (p49_3s0 hR hm ht hm' hn' hx))
   ·exact W (d24_3 (p49_3s1 hR hm ht hm' hn' hx))
   ·exact W (d24_3 (p49_3s2 hR hm ht hm' hn' hx))
   ·exact W (d24_3 (p49_3s3 hR hm ht hm' hn' hx))
   ·exact W (d24_3 (p49_3e0 hR hm ht hm' hn' hx))
   ·exact W (d24_3 (p49_3e1 hR hm ht hm' hn' hx))
   ·exact W (d24_3 (p49_3e2 hR hm ht hm' hn' hx))
   ·exact W (d24_3 (p49_3e3 hR hm ht hm' hn' hx))
  by_cases k4:kind=4
  ·subst k4
   rcases nm_cases name with h|h
   ·exact W (d24_4 (p50_4a hR hm ht h hx))
   ·rcases Nat.eq_zero_or_pos kl with hz|hz
    ·exact W (d24_4 (p50_4b hR hm ht h hz hx))
    ·exact W (d24_4 (p50_4c hR hm ht h hz hx))
  by_cases k5:kind=5
  ·subst k5
   rcases nm_cases name with h|h<;>cases hm1:(m==1)
   ·exact W (d24_5 (p51_5ff hR hm ht hm1 h hx))
   ·exact W (d24_5 (p51_5tf hR hm ht hm1 h hx))
   ·exact W (d24_5 (p51_5ft hR hm ht hm1 h hx))
   ·exact W (d24_5 (p51_5tt hR hm ht hm1 h hx))
  by_cases k6:kind=6
  ·subst k6
   exact W (d24_6 (p52_6 hR hx))
  by_cases k7:kind=7
  ·subst k7
   exact W (d24_7 (p53_7 hR hm ht hx))
  by_cases k8:kind=8
  ·subst k8
   exact W (d24_8 (p54_8 hR hm ht hx))
  by_cases k9:kind=9
  ·subst k9
   exact W (p24_9 hR hm ht hx)
  by_cases k10:kind=10
  ·subst k10
   exact W (p24_10 hR hm ht hx)
  by_cases k11:kind=11
  ·subst k11
   exact W (p24_11 hR hm ht hx)
  by_cases k12:kind=12
  ·subst k12
   rcases nm_cases name with h|h<;>cases hm1:(m==1)
   ·exact W (d24_12 (p51_12ff hR hm ht hm1 h hx))
   ·exact W (d24_12 (p51_12tf hR hm ht hm1 h hx))
   ·exact W (d24_12 (p51_12ft hR hm ht hm1 h hx))
   ·exact W (d24_12 (p51_12tt hR hm ht hm1 h hx))
  omega
 by_cases gt:13≤kind∧kind≤19
 ·have W:∀{T:List (List UInt8)},Wq B w0 wb 25 (nodeC kind pos n m name (.slice ko kl kc)) T→Wq B w0 wb 14 (nodeC kind pos n m name (.slice ko kl kc)) T:=fun HP=>d14_kt (by omega) (by omega) HP
  by_cases k13:kind=13
  ·subst k13
   exact W (p25_13 hR hm ht hx)
  by_cases k14:kind=14
  ·subst k14
   exact W (p25_14 hR hm ht hx)
  by_cases k15:kind=15
  ·subst k15
   exact W (p25_15 hR hm ht hx)
  by_cases k16:kind=16
  ·subst k16
   rcases nm_cases name with h|h
   ·exact W (p25_16a hR hm ht h hx)
   ·exact W (p25_16b hR hm ht h hx)
  by_cases k17:kind=17
  ·subst k17
   rcases nm_cases name with h|h
   ·exact W (p25_17a hR hm ht h hx)
   ·exact W (p25_17b hR hm ht h hx)
  by_cases k18:kind=18
  ·subst k18
   exact W (p25_18 hR hm ht hx)
  by_cases k19:kind=19
  ·subst k19
   exact W (p25_19 hR hm ht hx)
  omega
 by_cases ge:20≤kind∧kind≤48
 ·have W:∀{T:List (List UInt8)},Wq B w0 wb 26 (nodeC kind pos n m name (.slice ko kl kc)) T→Wq B w0 wb 14 (nodeC kind pos n m name (.slice ko kl kc)) T:=fun HP=>d14_ke (by omega) (by omega) (by omega) HP
  by_cases k20:kind=20
  ·subst k20
   exact W (p26_20 hR hm ht hx)
  by_cases k21:kind=21
  ·subst k21
   exact W (p26_21 hR hm ht hx)
  by_cases k22:kind=22
  ·subst k22
   exact W (p26_22 hR hm ht hx)
  by_cases k23:kind=23
  ·subst k23
   exact W (p26_23 hR hm ht hx)
  by_cases k24:kind=24
  ·subst k24
   exact W (p26_24 hR hm ht hx)
  by_cases k25:kind=25
  ·subst k25
   rcases nm_cases name with h|h
   ·exact W (d26_25 (p64_25a hR hm ht h hx))
   ·exact W (d26_25 (p64_25b hR hm ht h hx))
  by_cases k26:kind=26
  ·subst k26
   exact W (d26_26 (p65_26 hR hm ht hx))
  by_cases k27:kind=27
  ·subst k27
   exact W (d26_27 (p65_27 hR hm ht hx))
  by_cases k28:kind=28
  ·subst k28
   exact W (d26_28 (p65_28 hR hm ht hx))
  by_cases k29:kind=29
  ·subst k29
   exact W (p26_29 hR hm ht hx)
  by_cases k30:kind=30
  ·subst k30
   exact W (p26_30 hR hm ht hx)
  by_cases k31:kind=31
  ·subst k31
   exact W (p26_31 hR hm ht hx)
  by_cases k32:kind=32
  ·subst k32
   exact W (p26_32 hR hm ht hx)
  by_cases k33:kind=33
  ·subst k33
   have hlen:kl=2∨kl=3:=by
    obtain⟨y,z,zs,eks,hz,-,-,-⟩:=hg.eif rfl
    have:=congrArg List.length eks
    simp at this;omega
   rcases hlen with h|h
   ·exact W (d26_33 (p68_33a hR hm ht h hx))
   ·exact W (d26_33 (p68_33b hR hm ht h hx))
  by_cases k34:kind=34
  ·subst k34
   exact W (d26_34 (p68_34 hR hm ht hx))
  by_cases k35:kind=35
  ·subst k35
   exact W (d26_35 (p68_35 hR hm ht hx))
  by_cases k36:kind=36
  ·subst k36
   exact W (d26_36 (p68_36 hR hm ht hx))
  by_cases k37:kind=37
  ·subst k37
   exact W (d26_37 (p68_37 hR hm ht hx))
  by_cases k38:kind=38
  ·subst k38
   exact W (d26_38 (p68_38 hR hm ht hx))
  by_cases k39:kind=39
  ·subst k39
   exact W (d26_39 (p68_39 hR hm ht hx))
  by_cases k40:kind=40
  ·subst k40
   exact W (d26_40 (p68_40 hR hm ht hx))
  by_cases k41:kind=41
  ·subst k41
   exact W (d26_41 (p68_41 hR hm ht hx))
  by_cases k42:kind=42
  ·subst k42
   exact W (d26_42 (d68_42 (p90_42 hR hx)))
  by_cases k43:kind=43
  ·subst k43
   have hn':n=0∨n=1∨n=2∨n=3:=by have:=(hg.elet rfl).2;omega
   rcases hn' with hn'|hn'|hn'|hn'
   ·exact W (d26_43 (d68_43 (p91_430 hR hm ht hn' hx)))
   ·exact W (d26_43 (d68_43 (p91_431 hR hm ht hn' hx)))
   ·exact W (d26_43 (d68_43 (p91_432 hR hm ht hn' hx)))
   ·exact W (d26_43 (d68_43 (p91_433 hR hm ht hn' hx)))
  by_cases k44:kind=44
  ·subst k44
   rcases hx.shape with h|h
   ·exact W (d26_44 (p67_44a hR hm ht h hx))
   ·exact W (d26_44 (p67_44b hR hm ht h hx))
  by_cases k45:kind=45
  ·subst k45
   exact W (d26_45 (p67_45 hR hm ht hx))
  by_cases k46:kind=46
  ·subst k46
   exact W (d26_46 (p67_46 hR hm ht hx))
  by_cases k47:kind=47
  ·subst k47
   exact W (d26_47 (p67_47 hR hm ht hx))
  by_cases k48:kind=48
  ·subst k48
   exact W (d26_48 (p67_48 hR hm ht hx))
  omega
 by_cases gp:49≤kind∧kind≤54
 ·have W:∀{T:List (List UInt8)},Wq B w0 wb 27 (nodeC kind pos n m name (.slice ko kl kc)) T→Wq B w0 wb 14 (nodeC kind pos n m name (.slice ko kl kc)) T:=fun HP=>d14_kp (by omega) (by omega) (by omega) HP
  by_cases k49:kind=49
  ·subst k49
   exact W (p27_49 hR hm ht hx)
  by_cases k50:kind=50
  ·subst k50
   cases hn2:(n==2)
   ·cases hm1:(m==1)
    ·exact W (p27_5000 hR hm ht hn2 hm1 hx)
    ·exact W (p27_5001 hR hm ht hn2 hm1 hx)
   ·exact W (p27_5010 hR hm ht hn2 hx)
  by_cases k51:kind=51
  ·subst k51
   exact W (p27_51 hR hm ht hx)
  by_cases k52:kind=52
  ·subst k52
   exact W (p27_52 hR hm ht hx)
  by_cases k53:kind=53
  ·subst k53
   exact W (p27_53 hR hm ht hx)
  by_cases k54:kind=54
  ·subst k54
   rcases Nat.eq_zero_or_pos kl with hz|hz
   ·exact W (p27_54a hR hm ht hz hx)
   ·exact W (p27_54b hR hm ht hz hx)
  omega
 omega
theorem RP.next (hm:Mx B w0) (ht:Tab B w0) (ih:RP B w0 wb f):RP B w0 wb (f+1):=by
 unfold RP
 intro w ts kind pos n m name kv hx hk h hf
 obtain⟨k',p',n',m',s',o',l',c',e,-,-⟩:=hx.fields
 have e2:kind=k'∧pos=p'∧n=n'∧m=m'∧name=s'∧kv=.slice o' l' c':=by simpa[nodeC] using e
 obtain⟨rfl,rfl,rfl,rfl,rfl,rfl⟩:=e2
 have hk2:=okL.kind (show okL (lab kind n m name (lenOf (.slice o' l' c'))) from hk)
 exact ih.up hm ht hx hk2.1 hk2.2 h hf
theorem RP.all (hm:Mx B w0) (ht:Tab B w0) (f:Nat):RP B w0 wb f:=by
 induction f with
 |zero=>intro w ts kind pos n m name kv hx;exact absurd hx (fun x=>x)
 |succ f ih=>exact RP.next hm ht ih
end
end Go.Proofs.YtagdihffmjopaaaGreatDoor
