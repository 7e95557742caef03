/- The document's writer: functions, data types. -/
import Derived.Test.YtagdihffmjopaaaGreatDoorPti
namespace Go.Proofs.YtagdihffmjopaaaGreatDoor
set_option linter.all false
open Go.RowKit
section
variable{B:Nat} {w0 w:World} {wb f:Nat} {bs:List UInt8} {kind pos n m:Int} {name:ByteArray} {ko:Option Addr} {kl kc:Nat}
theorem kid_gw (hRs:∀g,g≤f→RN B w0 wb g) (ht:Tab B w0) {vs:List (List Value)} (hr:NR B w0 f ko vs) (hc:∀i x,vs[i]? =some x→∃g,ko=some ⟨g,0,none⟩∧g<B∧∀j,j<11→w0.cell? ⟨g,i*11+j,none⟩=x[j]?) {i:Nat} (hi:i<vs.length) (hk:∀x,vs[i]? =some x→labOf x=9):∃(k p a b:Int) (s:ByteArray) (o:Option Addr) (l c g:Nat) (X Y Z:List (List UInt8)),kd (vs.map (kdAt f w0)) i=⟨k,l,X⟩∧Y=pOp ⟨k,l,X⟩∧Z=pRes ⟨k,l,X⟩∧ko=some ⟨g,0,none⟩∧Wc B w0 wb 75 (nodeC k p a b s (.slice o l c)) X∧True∧True∧∀W,Below B w0 W→B≤W.heap.size→g<W.heap.size∧∀j,j<11→W.cell? ⟨g,i*11+j,none⟩=(nodeC k p a b s (.slice o l c)).toList[j]? :=by
 obtain⟨k,p,a,b,s,o,l,c,g,h1,h2,h3,h4⟩:=kid_open hr hc hi
 have h5:=hk _ h1
 exact⟨k,p,a,b,s,o,l,c,g,tok f w0 (nodeC k p a b s (.slice o l c)).toList,_,_,by unfold kd;rw[List.getElem?_map,h1];rfl,rfl,rfl,h3,gens75 hRs ht h2 h5,trivial,trivial,h4⟩
set_option maxRecDepth 100000 in
set_option maxHeartbeats 2000000 in
theorem e74_8a (hRs:∀g,g≤f→RN B w0 wb g) (ht:Tab B w0) (hl2:∀z:Nat,n=(z:Int)→kl=z+2) {F:List (List UInt8)} (hx:Nw B w0 (f+1) (nodeC 8 pos n m name (.slice ko kl kc)).toList) (hF:tok (f+1) w0 (nodeC 8 pos n m name (.slice ko kl kc)).toList=pWhen (m==1) [[112,117,98]]++F):Wc B w0 wb 74 (nodeC 8 pos n m name (.slice ko kl kc)) F:=by
 intro w bs h hne hf
 have hR:RN B w0 wb f:=@hRs f (Nat.le_refl f)
 have hcap:=hx.cap
 obtain⟨vs,hkl,hr,hg,htok,hs,hc⟩:=hx.opened
 rw[htok] at hF
 clear htok hx
 obtain⟨-,ps,y1,rest,eks,hpl,hps,ny,-,nrest⟩:=hg.fn rfl
 obtain⟨nn,hnn⟩:∃nn,ps.length=nn:=⟨_,rfl⟩
 obtain rfl:n=(nn:Int):=by rw[←hpl,hnn]
 have hrl:rest.length=0:=by
  have:=hl2 nn rfl
  have h9:=congrArg List.length eks
  simp at h9;omega
 obtain rfl:kl=2+nn+0:=by
  have h9:=congrArg List.length eks
  simp at h9;omega
 obtain⟨cz,rfl⟩:∃cz,kc=2+nn+cz:=⟨kc - (2+nn),by omega⟩
 have hx0:(vs.map labOf)[0]? =some 9:=by rw[eks];rfl
 have hx1:(vs.map labOf)[1+nn]? =some y1:=by
  rw[eks,←hnn,Nat.add_comm 1,List.getElem?_cons_succ,List.getElem?_append_right (Nat.le_refl _),Nat.sub_self];rfl
 have hl12:=labs_take (labs_drop (mm:=1) (cs:=[9]) (rs:=ps++y1::rest) eks rfl) hnn hps
 obtain⟨k0,p0,a0,b0,s0,o0,l0,c0,g,X0,Y0,Z0,e0,y0,z0,rfl,W0,WO0,WR0,C0⟩:=(kid_gw (fun g hg=>@hRs g hg) ht) hr hc (i:=0) (by omega) (fun x hx=>lab_nth hx0 hx)
 obtain⟨k1,p1,a1,b1,s1,o1,l1,c1,g1,X1,Y1,Z1,e1,y1,z1,eg1,W1,WO1,WR1,C1⟩:=kid_w hR hr hc (i:=(1+nn)) (by omega) (fun x hx=>by rw[lab_nth hx1 hx];exact ny.no)
 obtain rfl:g=g1:=by simpa using eg1
 obtain⟨vt,hvt⟩:∃vt,vt=(vs.drop 1).take nn:=⟨_,rfl⟩
 have hvl:vt.length=nn:=by rw[hvt,List.length_take,List.length_drop];omega
 have em2:((vs.map (kdAt f w0)).drop 1).take nn=vt.map (kdAt f w0):=by rw[hvt,List.map_take,List.map_drop]
 have hb:=hr.few
 rw[hkl] at hb
 have e:asm 8 nn m (name:ByteArray).data.toList (vs.map (kdAt f w0))=pWhen (m==1) [[112,117,98]]++([[102,110],tl name]++(X0++(pRow [40] [41] (vt.map (kdAt f w0))++(Z1++[])))):=by
  show pWhen (m==1) [[112,117,98]]++([102,110]::tl name::((kd (vs.map (kdAt f w0)) 0).t++(pRow [40] [41] (((vs.map (kdAt f w0)).drop 1).take (nn:Int).toNat)++(pRes (kd (vs.map (kdAt f w0)) (1+(nn:Int).toNat))++pAll ((vs.map (kdAt f w0)).drop (2+(nn:Int).toNat))))))=_
  rw[Int.toNat_natCast,em2,e0,e1,z1]
  rw[show pAll ((vs.map (kdAt f w0)).drop (2+nn))=[] from by rw[List.drop_of_length_le (by rw[List.length_map,hkl];omega)];rfl]
  rfl
 obtain rfl:F=[[102,110],tl name]++(X0++(pRow [40] [41] (vt.map (kdAt f w0))++(Z1++[]))):=List.append_cancel_left (hF.symm.trans e)
 clear e hF
 have q:=(Sw.start h hne hf).box (nodeC 8 pos nn m name (.slice (some ⟨g,0,none⟩) (2+nn+0) (2+nn+cz)))
 have HW0:Hid (Wc B w0 wb 75 (nodeC k0 p0 a0 b0 s0 (.slice o0 l0 c0)) X0):=W0
 have HC0:Hid (∀W,Below B w0 W→B≤W.heap.size→g<W.heap.size∧∀j,j<11→W.cell? ⟨g,0*11+j,none⟩=(nodeC k0 p0 a0 b0 s0 (.slice o0 l0 c0)).toList[j]?):=C0
 have HWR1:Hid (Wc B w0 wb 96 (nodeC k1 p1 a1 b1 s1 (.slice o1 l1 c1)) Z1):=WR1
 have HC1:Hid (∀W,Below B w0 W→B≤W.heap.size→g<W.heap.size∧∀j,j<11→W.cell? ⟨g,(1+nn)*11+j,none⟩=(nodeC k1 p1 a1 b1 s1 (.slice o1 l1 c1)).toList[j]?):=C1
 have HT:Hid (NR B w0 f (some ⟨g,11,none⟩) vt∧(∀x∈vt,labOf x=12)∧vt.length=nn):=⟨by have:=(hr.drop 1).take nn;rw[←hvt] at this;simpa using this,by rw[hvt];exact hl12,hvl⟩
 have HRs:Hid (∀g,g≤f→RN B w0 wb g):=fun g hg=>@hRs g hg
 have hbI:2+(nn:Int)+0≤20000:=by omega
 clear e0 y0 z0 W0 WO0 WR0 C0
 clear e1 y1 z1 W1 WO1 WR1 C1 eg1
 clear h hne hf hr hg hc hkl hcap hRs hb hvt hvl em2 eks hpl hnn hps ny nrest hrl hx0 hx1 hl12 hl2
 have F:=q.f1
 have lg:=(HC0.out _ q.wr.bel q.wr.base).1
 have G0:=kid0 (HC0.out _ q.wr.bel q.wr.base).2
 have G1:=kidn (HC1.out _ q.wr.bel q.wr.base).2
 go_enter Tryz.func74,Tryz.ntmps74
 go_wp2_with (first
  |(go_at_call 31;refine q.puts (ss:=[⟨#[102,110]⟩,name]) (hg:=by first|rfl|simp) (ho:=rfl) (hX:=rfl) (hn:=rfl) (hl:=by decide) ?_;clear q F lg G0 G1;intro w2 q;have F:=q.f1;have lg:=(HC0.out _ q.wr.bel q.wr.base).1;have G0:=kid0 (HC0.out _ q.wr.bel q.wr.base).2;have G1:=kidn (HC1.out _ q.wr.bel q.wr.base).2)
  |(go_at_call 75;refine q.go (fun a1 a2 a3=>HW0.out a1 a2 a3) ?_;clear q F lg G0 G1;intro w2 q;have F:=q.f1;have lg:=(HC0.out _ q.wr.bel q.wr.base).1;have G0:=kid0 (HC0.out _ q.wr.bel q.wr.base).2;have G1:=kidn (HC1.out _ q.wr.bel q.wr.base).2)
  |(go_at_call 95;refine q.go (fun a1 a2 a3=>params95n HRs.out HT.out.1 HT.out.2.1 HT.out.2.2 a1 a2 a3) ?_;clear q F lg G0 G1;intro w2 q;have F:=q.f1;have lg:=(HC0.out _ q.wr.bel q.wr.base).1;have G0:=kid0 (HC0.out _ q.wr.bel q.wr.base).2;have G1:=kidn (HC1.out _ q.wr.bel q.wr.base).2)
  |(go_at_call 96;refine q.go (fun a1 a2 a3=>HWR1.out a1 a2 a3) ?_;clear q F lg G0 G1;intro w2 q;have F:=q.f1;have lg:=(HC0.out _ q.wr.bel q.wr.base).1;have G0:=kid0 (HC0.out _ q.wr.bel q.wr.base).2;have G1:=kidn (HC1.out _ q.wr.bel q.wr.base).2))
 all_goals(go_end0;exact q.done (by simp<;>rfl))
set_option maxRecDepth 100000 in
set_option maxHeartbeats 2000000 in
theorem e74_8b (hRs:∀g,g≤f→RN B w0 wb g) (ht:Tab B w0) (hl2:∀z:Nat,n=(z:Int)→kl=z+3) {F:List (List UInt8)} (hx:Nw B w0 (f+1) (nodeC 8 pos n m name (.slice ko kl kc)).toList) (hF:tok (f+1) w0 (nodeC 8 pos n m name (.slice ko kl kc)).toList=pWhen (m==1) [[112,117,98]]++F):Wc B w0 wb 74 (nodeC 8 pos n m name (.slice ko kl kc)) F:=by
 intro w bs h hne hf
 have hR:RN B w0 wb f:=@hRs f (Nat.le_refl f)
 have hcap:=hx.cap
 obtain⟨vs,hkl,hr,hg,htok,hs,hc⟩:=hx.opened
 rw[htok] at hF
 clear htok hx
 obtain⟨-,ps,y1,rest,eks,hpl,hps,ny,-,nrest⟩:=hg.fn rfl
 obtain⟨nn,hnn⟩:∃nn,ps.length=nn:=⟨_,rfl⟩
 obtain rfl:n=(nn:Int):=by rw[←hpl,hnn]
 have hrl:rest.length=1:=by
  have:=hl2 nn rfl
  have h9:=congrArg List.length eks
  simp at h9;omega
 obtain rfl:kl=2+nn+1:=by
  have h9:=congrArg List.length eks
  simp at h9;omega
 obtain⟨cz,rfl⟩:∃cz,kc=2+nn+cz:=⟨kc - (2+nn),by omega⟩
 have hx0:(vs.map labOf)[0]? =some 9:=by rw[eks];rfl
 have hx1:(vs.map labOf)[1+nn]? =some y1:=by
  rw[eks,←hnn,Nat.add_comm 1,List.getElem?_cons_succ,List.getElem?_append_right (Nat.le_refl _),Nat.sub_self];rfl
 have hx2:∀x,vs[2+nn]? =some x→noK (labOf x):=fun x hx=>by
  have h9:(vs.map labOf)[2+nn]? =some (labOf x):=by rw[List.getElem?_map,hx];rfl
  rw[eks,←hnn,show 2+ps.length=(ps.length+1)+1 by omega,List.getElem?_cons_succ,List.getElem?_append_right (by omega),show ps.length+1 - ps.length=1 by omega,List.getElem?_cons_succ] at h9
  exact nrest _ (List.mem_of_getElem? h9)
 have hl12:=labs_take (labs_drop (mm:=1) (cs:=[9]) (rs:=ps++y1::rest) eks rfl) hnn hps
 obtain⟨k0,p0,a0,b0,s0,o0,l0,c0,g,X0,Y0,Z0,e0,y0,z0,rfl,W0,WO0,WR0,C0⟩:=(kid_gw (fun g hg=>@hRs g hg) ht) hr hc (i:=0) (by omega) (fun x hx=>lab_nth hx0 hx)
 obtain⟨k1,p1,a1,b1,s1,o1,l1,c1,g1,X1,Y1,Z1,e1,y1,z1,eg1,W1,WO1,WR1,C1⟩:=kid_w hR hr hc (i:=(1+nn)) (by omega) (fun x hx=>by rw[lab_nth hx1 hx];exact ny.no)
 obtain rfl:g=g1:=by simpa using eg1
 obtain⟨k2,p2,a2,b2,s2,o2,l2,c2,g2,X2,Y2,Z2,e2,y2,z2,eg2,W2,WO2,WR2,C2⟩:=kid_w hR hr hc (i:=(nn+2)) (by omega) (by rw[Nat.add_comm];exact hx2)
 obtain rfl:g=g2:=by simpa using eg2
 obtain⟨vt,hvt⟩:∃vt,vt=(vs.drop 1).take nn:=⟨_,rfl⟩
 have hvl:vt.length=nn:=by rw[hvt,List.length_take,List.length_drop];omega
 have em2:((vs.map (kdAt f w0)).drop 1).take nn=vt.map (kdAt f w0):=by rw[hvt,List.map_take,List.map_drop]
 have hb:=hr.few
 rw[hkl] at hb
 have e:asm 8 nn m (name:ByteArray).data.toList (vs.map (kdAt f w0))=pWhen (m==1) [[112,117,98]]++([[102,110],tl name]++(X0++(pRow [40] [41] (vt.map (kdAt f w0))++(Z1++(X2++[]))))):=by
  show pWhen (m==1) [[112,117,98]]++([102,110]::tl name::((kd (vs.map (kdAt f w0)) 0).t++(pRow [40] [41] (((vs.map (kdAt f w0)).drop 1).take (nn:Int).toNat)++(pRes (kd (vs.map (kdAt f w0)) (1+(nn:Int).toNat))++pAll ((vs.map (kdAt f w0)).drop (2+(nn:Int).toNat))))))=_
  rw[Int.toNat_natCast,em2,e0,e1,z1]
  have hd:(vs.map (kdAt f w0)).drop (2+nn)=[⟨k2,l2,X2⟩]:=by
   have h9:2+nn<(vs.map (kdAt f w0)).length:=by rw[List.length_map];omega
   rw[List.drop_eq_getElem_cons h9,List.drop_of_length_le (by rw[List.length_map,hkl];omega)]
   have h8:(vs.map (kdAt f w0))[2+nn]? =some ((vs.map (kdAt f w0))[2+nn]'h9):=List.getElem?_eq_getElem h9
   rw[Nat.add_comm nn 2] at e2
   unfold kd at e2
   rw[h8] at e2
   rw[show(vs.map (kdAt f w0))[2+nn]'h9=⟨k2,l2,X2⟩ from e2]
  rw[hd]
  simp[pAll]
 obtain rfl:F=[[102,110],tl name]++(X0++(pRow [40] [41] (vt.map (kdAt f w0))++(Z1++(X2++[])))):=List.append_cancel_left (hF.symm.trans e)
 clear e hF
 have q:=(Sw.start h hne hf).box (nodeC 8 pos nn m name (.slice (some ⟨g,0,none⟩) (2+nn+1) (2+nn+cz)))
 have HW0:Hid (Wc B w0 wb 75 (nodeC k0 p0 a0 b0 s0 (.slice o0 l0 c0)) X0):=W0
 have HC0:Hid (∀W,Below B w0 W→B≤W.heap.size→g<W.heap.size∧∀j,j<11→W.cell? ⟨g,0*11+j,none⟩=(nodeC k0 p0 a0 b0 s0 (.slice o0 l0 c0)).toList[j]?):=C0
 have HWR1:Hid (Wc B w0 wb 96 (nodeC k1 p1 a1 b1 s1 (.slice o1 l1 c1)) Z1):=WR1
 have HC1:Hid (∀W,Below B w0 W→B≤W.heap.size→g<W.heap.size∧∀j,j<11→W.cell? ⟨g,(1+nn)*11+j,none⟩=(nodeC k1 p1 a1 b1 s1 (.slice o1 l1 c1)).toList[j]?):=C1
 have HW2:Hid (Wc B w0 wb 76 (nodeC k2 p2 a2 b2 s2 (.slice o2 l2 c2)) X2):=W2
 have HC2:Hid (∀W,Below B w0 W→B≤W.heap.size→g<W.heap.size∧∀j,j<11→W.cell? ⟨g,(nn+2)*11+j,none⟩=(nodeC k2 p2 a2 b2 s2 (.slice o2 l2 c2)).toList[j]?):=C2
 have HT:Hid (NR B w0 f (some ⟨g,11,none⟩) vt∧(∀x∈vt,labOf x=12)∧vt.length=nn):=⟨by have:=(hr.drop 1).take nn;rw[←hvt] at this;simpa using this,by rw[hvt];exact hl12,hvl⟩
 have HRs:Hid (∀g,g≤f→RN B w0 wb g):=fun g hg=>@hRs g hg
 have hbI:2+(nn:Int)+1≤20000:=by omega
 have hcz:1≤cz:=by omega
 clear e0 y0 z0 W0 WO0 WR0 C0
 clear e1 y1 z1 W1 WO1 WR1 C1 eg1
 clear e2 y2 z2 W2 WO2 WR2 C2 eg2
 clear h hne hf hr hg hc hkl hcap hRs hb hvt hvl em2 eks hpl hnn hps ny nrest hrl hx0 hx1 hl12 hl2 hx2
 have F:=q.f1
 have lg:=(HC0.out _ q.wr.bel q.wr.base).1
 have G0:=kid0 (HC0.out _ q.wr.bel q.wr.base).2
 have G1:=kidn (HC1.out _ q.wr.bel q.wr.base).2
 have G2:=kidn (HC2.out _ q.wr.bel q.wr.base).2
 go_enter Tryz.func74,Tryz.ntmps74
 go_wp2_with (first
  |(go_at_call 31;refine q.puts (ss:=[⟨#[102,110]⟩,name]) (hg:=by first|rfl|simp) (ho:=rfl) (hX:=rfl) (hn:=rfl) (hl:=by decide) ?_;clear q F lg G0 G1 G2;intro w2 q;have F:=q.f1;have lg:=(HC0.out _ q.wr.bel q.wr.base).1;have G0:=kid0 (HC0.out _ q.wr.bel q.wr.base).2;have G1:=kidn (HC1.out _ q.wr.bel q.wr.base).2;have G2:=kidn (HC2.out _ q.wr.bel q.wr.base).2)
  |(go_at_call 75;refine q.go (fun a1 a2 a3=>HW0.out a1 a2 a3) ?_;clear q F lg G0 G1 G2;intro w2 q;have F:=q.f1;have lg:=(HC0.out _ q.wr.bel q.wr.base).1;have G0:=kid0 (HC0.out _ q.wr.bel q.wr.base).2;have G1:=kidn (HC1.out _ q.wr.bel q.wr.base).2;have G2:=kidn (HC2.out _ q.wr.bel q.wr.base).2)
  |(go_at_call 95;refine q.go (fun a1 a2 a3=>params95n HRs.out HT.out.1 HT.out.2.1 HT.out.2.2 a1 a2 a3) ?_;clear q F lg G0 G1 G2;intro w2 q;have F:=q.f1;have lg:=(HC0.out _ q.wr.bel q.wr.base).1;have G0:=kid0 (HC0.out _ q.wr.bel q.wr.base).2;have G1:=kidn (HC1.out _ q.wr.bel q.wr.base).2;have G2:=kidn (HC2.out _ q.wr.bel q.wr.base).2)
  |(go_at_call 96;refine q.go (fun a1 a2 a3=>HWR1.out a1 a2 a3) ?_;clear q F lg G0 G1 G2;intro w2 q;have F:=q.f1;have lg:=(HC0.out _ q.wr.bel q.wr.base).1;have G0:=kid0 (HC0.out _ q.wr.bel q.wr.base).2;have G1:=kidn (HC1.out _ q.wr.bel q.wr.base).2;have G2:=kidn (HC2.out _ q.wr.bel q.wr.base).2)
  |(go_at_call 76;refine q.go (fun a1 a2 a3=>HW2.out a1 a2 a3) ?_;clear q F lg G0 G1 G2;intro w2 q;have F:=q.f1;have lg:=(HC0.out _ q.wr.bel q.wr.base).1;have G0:=kid0 (HC0.out _ q.wr.bel q.wr.base).2;have G1:=kidn (HC1.out _ q.wr.bel q.wr.base).2;have G2:=kidn (HC2.out _ q.wr.bel q.wr.base).2))
 all_goals(go_end0;exact q.done (by simp<;>rfl))
end
end Go.Proofs.YtagdihffmjopaaaGreatDoor
