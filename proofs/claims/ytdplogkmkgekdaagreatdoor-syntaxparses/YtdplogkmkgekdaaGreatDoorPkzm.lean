/- Rows in which lifetimes come first: the grammar's. -/
import Derived.Test.YtdplogkmkgekdaaGreatDoorPkzw
set_option linter.all false
set_option maxRecDepth 100000
set_option maxHeartbeats 4000000
namespace Go.Proofs.YtdplogkmkgekdaaGreatDoor.Pj
open Go.RowKit
theorem rowl {w W:World} {rb lb:Nat} {β:Bool} {v0 v1 v2 v3:Value} (hl:rb<w.heap.size) (hk:Kp ((lfW w lb β).alloc (.cells #[v0,v1,v2,v3] 113)).heap.size rb ((lfW w lb β).alloc (.cells #[v0,v1,v2,v3] 113)) W):∀o,W.cell? ⟨w.heap.size,o,none⟩=(#[v0,v1,v2,v3]:Array Value)[o]? :=by
 have e:(lfW w lb β).heap.size=w.heap.size:=(Flip.set w ⟨lb,3,none⟩ (.bool β)).size
 have:=rowc (w:=lfW w lb β) (by rw[e];exact hl) hk
 rwa [e] at this
theorem listS {w:World} {rb tb i lb:Nat} {cap:Cp} {t:Tk} (h:Rd w rb tb cap t i 0 0) {lv ov:Value} (h0:LfB w lb rb lv ov false) (hr:rb<lb) {M O:Nat→GP (List Nr)} {mm:Nat→GP (List (List Nr))} (hin:Ein 196)
 (hm1:∀F j,SRun t M O i (.inl (F,j))→Ev mm ⟨i,0,0⟩ (F,⟨j,0,0⟩)) (hm2:∀p,SRun t M O i (.inr p)→Wr mm ⟨i,0,0⟩ p) (HX:∀{w' j β},Rd w' rb tb cap t j 0 0→i≤j→LfB w' lb rb lv ov β→Calls Tryz.prog 196 #[.pointer (some ⟨lb,0,none⟩)] w' (SelP w' rb tb cap t j lb lv ov M O β)):
 Calls Tryz.prog 136 #[.pointer (some ⟨rb,0,none⟩),.agg #[.string ⟨#[44]⟩,.string ⟨#[62]⟩,.bool false,.bool false],.func (.func 196) #[.pointer (some ⟨lb,0,none⟩)] #[]] w fun e w'=>∃β,ListP (lfW w lb β) rb tb cap t i True mm e w':=by
 have HX:Hid (∀{w' j β},Rd w' rb tb cap t j 0 0→i≤j→LfB w' lb rb lv ov β→Calls Tryz.prog 196 #[.pointer (some ⟨lb,0,none⟩)] w' (SelP w' rb tb cap t j lb lv ov M O β)):=HX
 have hl:=h.l
 have HMP:=Hid_nx (And.intro hm1 hm2)
 have H0:=Hid_nx h0
 have hlw:lb<w.heap.size:=(Array.getElem?_eq_some_iff.1 h0).1
 have HR:Hid (rb<lb):=hr
 have hin2:∀args w,(callFunc 196 args).run Tryz.prog w=.ok (.enter 196 args) w:=hin
 have HHR:∀β,Rd (lfW w lb β) rb tb cap t i 0 0:=fun β=>h.flip (Flip.set w ⟨lb,3,none⟩ (.bool β)) hr
 have HK0:∀β,Kp (lfW w lb β).heap.size rb (lfW w lb β) ((lfW w lb β).alloc (.cells #[.string ⟨#[44]⟩,.string ⟨#[62]⟩,.bool false,.bool false] 113)):=fun β=>(Kp.refl _ _ _).alloc (Nat.le_refl _) _
 have HRD:=Hid_nx HHR
 have HKD:=Hid_nx HK0
 clear hm1 hm2 hin h0 HHR HK0
 go_enter Tryz.func136,Tryz.ntmps136
 have q:=Mf.start (h.alloc (.cells #[.string ⟨#[44]⟩,.string ⟨#[62]⟩,.bool false,.bool false] 113))
 replace q:=q.flip (lb:=lb) (Flip.alloc (Flip.set w ⟨lb,3,none⟩ (.bool false)) hlw _) (Flip.refl _ _) (by simp;omega) hr (((Below.heap_alloc _ _ _ hlw).trans H0.out).trans ((Below.heap_alloc _ _ _ (by simp[World.setCell];exact hlw)).trans (lfW_is H0.out)).symm)
 have HC:Hid (∀(β:Bool) (W:World),Kp ((lfW w lb β).alloc (.cells #[.string ⟨#[44]⟩,.string ⟨#[62]⟩,.bool false,.bool false] 113)).heap.size rb ((lfW w lb β).alloc (.cells #[.string ⟨#[44]⟩,.string ⟨#[62]⟩,.bool false,.bool false] 113)) W→∀o,W.cell? ⟨w.heap.size,o,none⟩=(#[.string ⟨#[44]⟩,.string ⟨#[62]⟩,.bool false,.bool false]:Array Value)[o]?):=fun β W hk=>rowl hl hk
 have HSZ:Hid (∀(β:Bool) (W:World),Kp ((lfW w lb β).alloc (.cells #[.string ⟨#[44]⟩,.string ⟨#[62]⟩,.bool false,.bool false] 113)).heap.size rb ((lfW w lb β).alloc (.cells #[.string ⟨#[44]⟩,.string ⟨#[62]⟩,.bool false,.bool false] 113)) W→w.heap.size<W.heap.size):=fun β W hk=>by have:=hk.size;simp[World.setCell] at this;omega
 clear hr
 go_wp2_with fail
 refine Mf.sl H0.out HR.out false q (fun hr hb=>HX.out hr (Nat.le_refl _) hb) (fun w' p β2 hk hS=>⟨rfl,β2,.inr ⟨p,rfl,hk,HMP.out.2 _ (.inr ⟨p,hS.out,rfl⟩)⟩⟩) ?_
 clear q
 intro wA xA iA yA βA hlA mA q
 go_wp2_with fail
 replace HMP:Hid ((∀F j,SLoop t M O βA iA [yA] (.inl (F,j))→Ev mm ⟨i,0,0⟩ (F,⟨j,0,0⟩))∧∀p,SLoop t M O βA iA [yA] (.inr p)→Wr mm ⟨i,0,0⟩ p):=⟨fun F j h=>HMP.out.1 F j (.inl ⟨_,_,_,mA.out,h⟩),fun p h=>HMP.out.2 p (.inl ⟨_,_,_,mA.out,h⟩)⟩
 go_loopg [7] (t.len - iA) (fun g v wr=>∃ao cp vs F j β,g=t.len - j∧v=.slice ao vs.length cp∧Mf ((lfW w lb β).alloc (.cells #[.string ⟨#[44]⟩,.string ⟨#[62]⟩,.bool false,.bool false] 113)) rb tb cap t i True wr j [] [] v vs [] F∧vs.length≤j - i∧Hid (∀r,SLoop t M O β j F r→SLoop t M O βA iA [yA] r))
 case atStart=>exact⟨some ⟨sz wA,0,none⟩,1,[xA.a.toList],[yA],iA,βA,rfl,rfl,q.m1 (sz wA),by have:=hlA.out;simp;omega,fun r hr=>hr⟩
 case round=>
  obtain⟨ao,cp,vs,F,j,β,hgk,rfl,q,hvs,HM⟩:=hrel
  have HG:Hid (gk=t.len - j):=hgk
  clear hgk
  have cR:=HC.out β wr q.st.kp
  have hjl:=q.st.rd.lt
  have hij:=q.go trivial
  have hfew:=h.good.few
  have HVS:Hid (vs.length≤j - i):=hvs
  have lR:w.heap.size<wr.heap.size:=HSZ.out β wr q.st.kp
  go_wp2_with fail
  refine q.et (skipP · _ (ask)) ?_
  clear q cR lR
  intro w3 b3 j3 hE3 m3 q
  have cR:=HC.out β w3 q.st.kp
  have lR:w.heap.size<w3.heap.size:=HSZ.out β w3 q.st.kp
  have hj3:=hE3.le
  have hyes3:=hE3.yes
  have HB:=Hid_nx hE3.is_.symm
  cases b3
  ·have HJ:Hid (j3=j):=hE3.no rfl
   clear hE3
   go_wp2_with fail
   refine q.wb (mustP · _ (ask)) (fun w' hk hb=>⟨rfl,β,.inr (thrb (HKD.out β) q hk (HMP.out.2 _ (HM.out _ (by rw[HJ.out] at hb⊢;exact .thrEnd HB.out hb.out))))⟩) ?_
   clear q cR
   intro w4 hb4 q
   go_wp2_with fail
   go_ret
   exact⟨β,list_back (h:=HRD.out β) q (by have:=HVS.out;have:=HJ.out;omega) (HMP.out.1 _ _ (HM.out _ (by have hb4:=hb4.out;rw[HJ.out] at hb4⊢;exact .stop HB.out hb4)))⟩
  ·clear hE3
   have HJ:Hid (j3=j+1):=(hyes3 rfl).1
   go_wp2_with fail
   refine Mf.sl H0.out HR.out β q (fun hr hb=>HX.out hr (by omega) hb) (fun w' p β2 hk hS=>⟨rfl,β2,.inr ⟨p,rfl,hk,HMP.out.2 _ (HM.out _ (.thr HB.out (HJ.out▸hS.out)))⟩⟩) ?_
   clear q cR lR
   intro w5 x5 i5 y5 β5 hl5 m5 q
   have cR:=HC.out β5 w5 q.st.kp
   go_wp2_with (at_builtin;refine q.ap (sz w5) (Nat.le_trans HVS.out (by omega)) ?_;clear q cR;intro w6 ao6 cp6 q)
   have hgo:=fun r hr=>HM.out r (.next HB.out (HJ.out▸m5.out) hr)
   have hlt5:=hl5.out
   have hlen5:=q.st.rd.lt
   have hj5:=HJ.out
   go_roundg (t.len - i5)
   case measure=>rw[HG.out];omega
   case rel=>exact⟨ao6,cp6,vs++[x5.t],F++[y5],i5,β5,rfl,by rw[List.length_append];rfl,q,by rw[List.length_append];have:=HVS.out;simp;omega,hgo⟩
theorem ein196:Ein 196:=ein_of (f:=196) (fn:=Tryz.f196) (by kernel_rfl) (by kernel_rfl) rfl
end Go.Proofs.YtdplogkmkgekdaaGreatDoor.Pj
namespace Go.Proofs.YtdplogkmkgekdaaGreatDoor.Pj
open Go.RowKit
theorem lfL {w:World} {rb tb i lb:Nat} {cap:Cp} {t:Tk} (h:Rd w rb tb cap t i 0 0) {kM kO:Nat} {fiM caM fiO caO:Array Value} (h0:LfB w lb rb (.func (.func kM) fiM caM) (.func (.func kO) fiO caO) false) (hr:rb<lb) {mm:Nat→GP (List Nr)} (hin:Ein kM) (hb:kindB t i 0 0 4=true) (HH:∀{w'},Rd w' rb tb cap t i 0 0→Calls Tryz.prog kM (fiM++caM) w' (NodeP w' rb tb cap t i True mm)):
 Calls Tryz.prog 196 #[.pointer (some ⟨lb,0,none⟩)] w (NodeP w rb tb cap t i True mm):=by
 have HHH:Hid (∀{w'},Rd w' rb tb cap t i 0 0→Calls Tryz.prog kM (fiM++caM) w' (NodeP w' rb tb cap t i True mm)):=HH
 have hin2:∀args w,(callFunc kM args).run Tryz.prog w=.ok (.enter kM args) w:=hin
 have hl:=h.l
 have hfd:=fld67_0
 have hk0:((t.kind i:Int)==4)=true:=(kindB_eq h.lt 4).symm.trans hb
 have H0:=Hid_nx h0
 have hlb:lb<w.heap.size:=(Array.getElem?_eq_some_iff.1 h0).1
 have cB:∀o,w.cell? ⟨lb,o,none⟩=(lfC rb (.func (.func kM) fiM caM) (.func (.func kO) fiO caO) false)[o]? :=fun o=>cell_of_row w lb o _ 134 (0,0) h0
 have cZ:∀o,w.frozen? ⟨lb,o,none⟩=false:=fun o=>frozen_of_row w lb o _ 134 h0
 clear hb HH hin h0
 go_enter Tryz.func196,Tryz.ntmps196
 have q:=Mf.start h
 go_wp2_with fail
 refine(q.ne' (sz w) (zeroC)).lf (tokP ·) ?_
 clear q
 intro w1 q
 have cW:∀o,w1.cell? ⟨lb,o,none⟩=(lfC rb (.func (.func kM) fiM caM) (.func (.func kO) fiO caO) false)[o]? :=fun o=>cell_of_row w1 lb o _ 134 (0,0) ((q.st.kp.block lb hlb (by omega)).trans H0.out)
 have F:=q.f1
 go_wp2_with fail
 refine q.nd (fun hr=>HHH.out hr) (fun w' p hk hw=>⟨rfl,.inr (q.thr hk hw)⟩) ?_
 clear q F cW
 intro w2 x2 i2 y2 hl2 m2 q
 have F:=q.f1
 go_wp2_with fail
 go_light
 exact Mf.rt q Tryz.results196 0 m2
theorem lfOt {w:World} {rb tb i lb:Nat} {cap:Cp} {t:Tk} (h:Rd w rb tb cap t i 0 0) {kM kO:Nat} {fiM caM fiO caO:Array Value} (h0:LfB w lb rb (.func (.func kM) fiM caM) (.func (.func kO) fiO caO) true) (hr:rb<lb) {mm:Nat→GP (List Nr)} (hin:Ein kO) (HH:∀{w'},Rd w' rb tb cap t i 0 0→Calls Tryz.prog kO (fiO++caO) w' (NodeP w' rb tb cap t i True mm)):
 Calls Tryz.prog 196 #[.pointer (some ⟨lb,0,none⟩)] w (NodeP (lfW w lb true) rb tb cap t i True mm):=by
 have HHH:Hid (∀{w'},Rd w' rb tb cap t i 0 0→Calls Tryz.prog kO (fiO++caO) w' (NodeP w' rb tb cap t i True mm)):=HH
 have hin2:∀args w,(callFunc kO args).run Tryz.prog w=.ok (.enter kO args) w:=hin
 have hl:=h.l
 have hfd:=fld67_0
 have H0:=Hid_nx h0
 have HR:=Hid_nx hr
 have hlb:lb<w.heap.size:=(Array.getElem?_eq_some_iff.1 h0).1
 have cB:∀o,w.cell? ⟨lb,o,none⟩=(lfC rb (.func (.func kM) fiM caM) (.func (.func kO) fiO caO) true)[o]? :=fun o=>cell_of_row w lb o _ 134 (0,0) h0
 have cZ:∀o,w.frozen? ⟨lb,o,none⟩=false:=fun o=>frozen_of_row w lb o _ 134 h0
 have e2:(lfW w lb true).heap.size=w.heap.size:=(Flip.set w ⟨lb,3,none⟩ (.bool true)).size
 clear HH hin h0
 go_enter Tryz.func196,Tryz.ntmps196
 have q:=Mf.start h
 go_wp2_with fail
 replace q:=q.flip (lb:=lb) (Flip.set w ⟨lb,3,none⟩ (.bool true)) (Flip.set w ⟨lb,3,none⟩ (.bool true)) hlb HR.out rfl
 refine(q.newAt (ad:=sz w) (by simp[World.setCell]) (zeroC)).nd (fun hr=>HHH.out hr) (fun w' p hk hw=>⟨rfl,.inr (Mf.thr (q.newAt (ad:=sz w) (by simp[World.setCell]) (zeroC)) hk hw)⟩) ?_
 clear q
 intro w2 x2 i2 y2 hl2 m2 q
 have F:=q.f1
 go_wp2_with fail
 go_light
 exact Mf.rt q Tryz.results196 0 m2
theorem lfOf {w:World} {rb tb i lb:Nat} {cap:Cp} {t:Tk} (h:Rd w rb tb cap t i 0 0) {kM kO:Nat} {fiM caM fiO caO:Array Value} (h0:LfB w lb rb (.func (.func kM) fiM caM) (.func (.func kO) fiO caO) false) (hr:rb<lb) {mm:Nat→GP (List Nr)} (hin:Ein kO) (hb:kindB t i 0 0 4=false) (HH:∀{w'},Rd w' rb tb cap t i 0 0→Calls Tryz.prog kO (fiO++caO) w' (NodeP w' rb tb cap t i True mm)):
 Calls Tryz.prog 196 #[.pointer (some ⟨lb,0,none⟩)] w (NodeP (lfW w lb true) rb tb cap t i True mm):=by
 have HHH:Hid (∀{w'},Rd w' rb tb cap t i 0 0→Calls Tryz.prog kO (fiO++caO) w' (NodeP w' rb tb cap t i True mm)):=HH
 have hin2:∀args w,(callFunc kO args).run Tryz.prog w=.ok (.enter kO args) w:=hin
 have hl:=h.l
 have hfd:=fld67_0
 have hk0:((t.kind i:Int)==4)=false:=(kindB_eq h.lt 4).symm.trans hb
 clear hb
 have H0:=Hid_nx h0
 have HR:=Hid_nx hr
 have hlb:lb<w.heap.size:=(Array.getElem?_eq_some_iff.1 h0).1
 have cB:∀o,w.cell? ⟨lb,o,none⟩=(lfC rb (.func (.func kM) fiM caM) (.func (.func kO) fiO caO) false)[o]? :=fun o=>cell_of_row w lb o _ 134 (0,0) h0
 have cZ:∀o,w.frozen? ⟨lb,o,none⟩=false:=fun o=>frozen_of_row w lb o _ 134 h0
 have e2:(lfW w lb true).heap.size=w.heap.size:=(Flip.set w ⟨lb,3,none⟩ (.bool true)).size
 clear HH hin h0
 go_enter Tryz.func196,Tryz.ntmps196
 have q:=Mf.start h
 go_wp2_with fail
 refine(q.ne' (sz w) (zeroC)).lf (tokP ·) ?_
 clear q
 intro w1 q
 have cW:∀o,w1.cell? ⟨lb,o,none⟩=(lfC rb (.func (.func kM) fiM caM) (.func (.func kO) fiO caO) false)[o]? :=fun o=>cell_of_row w1 lb o _ 134 (0,0) ((q.st.kp.block lb hlb (by omega)).trans H0.out)
 have zW:∀o,w1.frozen? ⟨lb,o,none⟩=false:=fun o=>frozen_of_row w1 lb o _ 134 ((q.st.kp.block lb hlb (by omega)).trans H0.out)
 have F:=q.f1
 have lW:lb<w1.heap.size:=by have:=q.st.size;omega
 have nz:lb≠w.heap.size:=by omega
 replace q:=q.flip (lb:=lb) (Flip.set w ⟨lb,3,none⟩ (.bool true)) (Flip.set w1 ⟨lb,3,none⟩ (.bool true)) hlb HR.out ((lfW_is ((q.st.kp.block lb hlb (by omega)).trans H0.out)).trans (lfW_is H0.out).symm)
 go_wp2_with fail
 refine q.nd (fun hr=>HHH.out hr) (fun w' p hk hw=>⟨rfl,.inr (q.thr hk hw)⟩) ?_
 clear q F cW zW lW
 intro w2 x2 i2 y2 hl2 m2 q
 have F:=q.f1
 go_wp2_with fail
 go_light
 exact Mf.rt q Tryz.results196 0 m2
theorem lifesReadP {w:World} {rb tb i lb:Nat} {cap:Cp} {t:Tk} (h:Rd w rb tb cap t i 0 0) {kM kO:Nat} {fiM caM fiO caO:Array Value} {β:Bool} (h0:LfB w lb rb (.func (.func kM) fiM caM) (.func (.func kO) fiO caO) β) (hr:rb<lb) {M O:Nat→GP (List Nr)} (hiM:Ein kM) (hiO:Ein kO) (HM:kindB t i 0 0 4=true→∀{w'},Rd w' rb tb cap t i 0 0→Calls Tryz.prog kM (fiM++caM) w' (NodeP w' rb tb cap t i True M)) (HO:∀{w'},Rd w' rb tb cap t i 0 0→Calls Tryz.prog kO (fiO++caO) w' (NodeP w' rb tb cap t i True O)):
 Calls Tryz.prog 196 #[.pointer (some ⟨lb,0,none⟩)] w (SelP w rb tb cap t i lb (.func (.func kM) fiM caM) (.func (.func kO) fiO caO) M O β):=by
 cases β
 ·cases hb:kindB t i 0 0 4
  ·exact(lfOf h h0 hr hiO hb HO).mono fun e w' p=>⟨_,true,Flip.set w ⟨lb,3,none⟩ (.bool true),lfW_is h0,.inr ⟨rfl,.inr hb,p⟩⟩
  ·exact(lfL h h0 hr hiM hb (HM hb)).mono fun e w' p=>⟨w,false,Flip.refl _ _,h0,.inl ⟨rfl,rfl,hb,p⟩⟩
 ·exact(lfOt h h0 hr hiO HO).mono fun e w' p=>⟨_,true,Flip.set w ⟨lb,3,none⟩ (.bool true),lfW_is h0,.inr ⟨rfl,.inl rfl,p⟩⟩
end Go.Proofs.YtdplogkmkgekdaaGreatDoor.Pj
namespace Go.Proofs.YtdplogkmkgekdaaGreatDoor.Pj
open Go.RowKit
structure SLike (t:Tk) (M O:Nat→GP (List Nr)) (E:Bool→List (List Nr)→Nat→List (List Nr) × Nat→Prop) (Wf:Bool→List (List Nr)→Nat→Int→Prop):Prop where
 stop:∀{β β2:Bool} {i j:Nat} {y:List Nr} {o:List (List Nr)},SEl t M O β i (.inl (β2,y,j))→isB t j 0 0 ⟨#[62]⟩=true→E β o i (o++[y],j+1)
 next:∀{β β2:Bool} {i j:Nat} {y:List Nr} {o:List (List Nr)} {r:List (List Nr) × Nat},SEl t M O β i (.inl (β2,y,j))→isB t j 0 0 ⟨#[44]⟩=true→isB t j 0 0 ⟨#[62]⟩=false→E β2 (o++[y]) (j+1) r→E β o i r
 nextw:∀{β β2:Bool} {i j:Nat} {y:List Nr} {o:List (List Nr)} {p:Int},SEl t M O β i (.inl (β2,y,j))→isB t j 0 0 ⟨#[44]⟩=true→isB t j 0 0 ⟨#[62]⟩=false→Wf β2 (o++[y]) (j+1) p→Wf β o i p
 bad:∀{β β2:Bool} {i j:Nat} {y:List Nr} {o:List (List Nr)},SEl t M O β i (.inl (β2,y,j))→isB t j 0 0 ⟨#[44]⟩=false→isB t j 0 0 ⟨#[62]⟩=false→Wf β o i (t.pos j)
 thr:∀{β:Bool} {i:Nat} {o:List (List Nr)} {p:Int},SEl t M O β i (.inr p)→Wf β o i p
section
variable {t:Tk} {M O:Nat→GP (List Nr)} {E:Bool→List (List Nr)→Nat→List (List Nr) × Nat→Prop} {Wf:Bool→List (List Nr)→Nat→Int→Prop}
theorem SLike.lp (H:SLike t M O E Wf) {β:Bool} {j:Nat} {F:List (List Nr)} {r:Res} (h:SLoop t M O β j F r):∀(β0:Bool) (i0:Nat) (o:List (List Nr)) (y:List Nr),F=o++[y]→SEl t M O β0 i0 (.inl (β,y,j))→(∀G,r=.inl G→E β0 o i0 G)∧∀p,r=.inr p→Wf β0 o i0 p:=by
 refine h (fun β j F r=>∀(β0:Bool) (i0:Nat) (o:List (List Nr)) (y:List Nr),F=o++[y]→SEl t M O β0 i0 (.inl (β,y,j))→(∀G,r=.inl G→E β0 o i0 G)∧∀p,r=.inr p→Wf β0 o i0 p) ?_ ?_ ?_ ?_
 ·intro β j F h1 h2 β0 i0 o y hF hy
  refine⟨fun G e=>?_,fun p e=>by simp at e⟩
  rw[←Sum.inl.inj e,hF]
  exact H.stop hy h2
 ·intro β j F h1 h2 β0 i0 o y hF hy
  refine⟨fun G e=>by simp at e,fun p e=>?_⟩
  rw[←Sum.inr.inj e]
  exact H.bad hy h1 h2
 ·intro β β2 j F y2 j2 r h1 h2 ih β0 i0 o y hF hy
  have hc:=isB_ne h1 (b:=⟨#[62]⟩) (lit)
  obtain⟨k1,k2⟩:=ih β (j+1) (o++[y]) y2 (by rw[hF]) h2
  exact⟨fun G e=>H.next hy h1 hc (k1 G e),fun p e=>H.nextw hy h1 hc (k2 p e)⟩
 ·intro β j F p h1 h2 β0 i0 o y hF hy
  have hc:=isB_ne h1 (b:=⟨#[62]⟩) (lit)
  refine⟨fun G e=>by simp at e,fun p2 e=>?_⟩
  rw[←Sum.inr.inj e]
  exact H.nextw hy h1 hc (H.thr h2)
theorem SLike.run (H:SLike t M O E Wf) {i:Nat} {r:Res} (h:SRun t M O i r):(∀G,r=.inl G→E false [] i G)∧∀p,r=.inr p→Wf false [] i p:=by
 rcases h with⟨β,y,j,h1,h2⟩|⟨p,h1,rfl⟩
 ·exact H.lp h2 false i [] y rfl h1
 ·refine⟨fun G e=>by simp at e,fun p2 e=>?_⟩
  rw[←Sum.inr.inj e]
  exact H.thr h1
end
section
variable {t:Tk} {T:Nat→GP (List Nr)} {o o2:List (List Nr)} {s s2:Rs} {r:List (List Nr) × Rs} {p:Int}
def gArgsT (t:Tk) (T:GP (List Nr)) (n l:Nat) (o:List (List Nr)):GP (List (List Nr)):=bnd (loop (gArgsB t) l (o,false)) (fun r=>cond r.2 (ret r.1) (gRow t T ⟨#[62]⟩ n r.1))
def EvA (t:Tk) (T:Nat→GP (List Nr)) (o:List (List Nr)) (s:Rs) (r:List (List Nr) × Rs):Prop:=∃n0,∀n l,n0≤n→n0≤l→gArgsT t (T n) n l o s=some r
def WrA (t:Tk) (T:Nat→GP (List Nr)) (o:List (List Nr)) (s:Rs) (p:Int):Prop:=∃n0,∀n l,n0≤n→n0≤l→∀r,gArgsT t (T n) n l o s=some r→r.2.k=4∧r.2.a=p
theorem gArgsT_on {T1:GP (List Nr)} {n l:Nat} (h:gArgsB t (o,false) s=some ((true,(o2,false)),s2)):gArgsT t T1 n (l+1) o s=gArgsT t T1 n l o2 s2:=by
 have e:loop (gArgsB t) (l+1) (o,false) s=loop (gArgsB t) l (o2,false) s2:=bnd_q h
 unfold gArgsT bnd
 rw[e]
theorem gArgsT_end {T1:GP (List Nr)} {n l:Nat} {b:Bool} (h:gArgsB t (o,false) s=some ((false,(o2,b)),s2)):gArgsT t T1 n (l+1) o s=cond b (ret o2) (gRow t T1 ⟨#[62]⟩ n o2) s2:=by
 have e:loop (gArgsB t) (l+1) (o,false) s=some ((o2,b),s2):=bnd_q h
 exact bnd_q e
theorem EvA.on (h:Ev (fun _=>gArgsB t (o,false)) s ((true,(o2,false)),s2)) (h2:EvA t T o2 s2 r):EvA t T o s r:=by
 obtain⟨a,ha⟩:=h
 obtain⟨c,hc⟩:=h2
 refine⟨max a c+1,fun n l hn hl=>?_⟩
 have h3:=Nat.le_max_left a c
 have h4:=Nat.le_max_right a c
 obtain⟨l,rfl⟩:∃m,l=m+1:=⟨l - 1,by omega⟩
 rw[gArgsT_on (ha n (by omega))]
 exact hc n l (by omega) (by omega)
theorem EvA.stop (h:Ev (fun _=>gArgsB t (o,false)) s ((false,(o2,true)),s2)):EvA t T o s (o2,s2):=by
 obtain⟨a,ha⟩:=h
 refine⟨a+1,fun n l hn hl=>?_⟩
 obtain⟨l,rfl⟩:∃m,l=m+1:=⟨l - 1,by omega⟩
 rw[gArgsT_end (ha n (by omega))]
 rfl
theorem EvA.row (h:Ev (fun _=>gArgsB t (o,false)) s ((false,(o,false)),s)) (h2:EvL (fun n=>gRowB t (T n) ⟨#[62]⟩) o s r):EvA t T o s r:=by
 obtain⟨a,ha⟩:=h
 obtain⟨c,hc⟩:=h2
 refine⟨max a c+1,fun n l hn hl=>?_⟩
 have h3:=Nat.le_max_left a c
 have h4:=Nat.le_max_right a c
 obtain⟨l,rfl⟩:∃m,l=m+1:=⟨l - 1,by omega⟩
 rw[gArgsT_end (ha n (by omega))]
 exact hc n n (by omega) (by omega)
theorem WrA.on (h:Ev (fun _=>gArgsB t (o,false)) s ((true,(o2,false)),s2)) (h2:WrA t T o2 s2 p):WrA t T o s p:=by
 obtain⟨a,ha⟩:=h
 obtain⟨c,hc⟩:=h2
 refine⟨max a c+1,fun n l hn hl r hr=>?_⟩
 have h3:=Nat.le_max_left a c
 have h4:=Nat.le_max_right a c
 obtain⟨l,rfl⟩:∃m,l=m+1:=⟨l - 1,by omega⟩
 rw[gArgsT_on (ha n (by omega))] at hr
 exact hc n l (by omega) (by omega) r hr
theorem WrA.here (hs:∀n,Sy (T n)) (h:Wr (fun _=>gArgsB t (o,false)) s p):WrA t T o s p:=by
 obtain⟨a,ha⟩:=h
 refine⟨a+1,fun n l hn hl r hr=>?_⟩
 obtain⟨l,rfl⟩:∃m,l=m+1:=⟨l - 1,by omega⟩
 obtain⟨q,h1,h2⟩:=bnd_some hr
 obtain⟨q2,h5,h6⟩:=bnd_some h1
 obtain⟨h7,h8⟩:=ha n (by omega) q2 h5
 have sB:∀x,Sy (gArgsB t x):=fun x=>by unfold gArgsB;exact syt
 have h9:=((Sy.cond (Sy.loop sB l q2.1.2) Sy.ret:Sy (cond q2.1.1 (loop (gArgsB t) l q2.1.2) (ret q2.1.2))) q2.2 q h6).2 (by rw[h7];decide)
 have sR:=hs n
 have h10:=((syt:Sy (cond q.1.2 (ret q.1.1) (gRow t (T n) ⟨#[62]⟩ n q.1.1))) q.2 r h2).2 (by rw[h9.1,h7];decide)
 exact⟨h10.1.trans (h9.1.trans h7),h10.2.trans (h9.2.trans h8)⟩
theorem WrA.row (h:Ev (fun _=>gArgsB t (o,false)) s ((false,(o,false)),s)) (h2:WrL (fun n=>gRowB t (T n) ⟨#[62]⟩) o s p):WrA t T o s p:=by
 obtain⟨a,ha⟩:=h
 obtain⟨c,hc⟩:=h2
 refine⟨max a c+1,fun n l hn hl r hr=>?_⟩
 have h3:=Nat.le_max_left a c
 have h4:=Nat.le_max_right a c
 obtain⟨l,rfl⟩:∃m,l=m+1:=⟨l - 1,by omega⟩
 rw[gArgsT_end (ha n (by omega))] at hr
 exact hc n n (by omega) (by omega) r hr
theorem argsLike (hT:∀n,Sy (T n)):SLike t (fun _=>gLife t) T (fun β o i r=>if β=true then EvL (fun n=>gRowB t (T n) ⟨#[62]⟩) o ⟨i,0,0⟩ (r.1,⟨r.2,0,0⟩) else EvA t T o ⟨i,0,0⟩ (r.1,⟨r.2,0,0⟩)) (fun β o i p=>if β=true then WrL (fun n=>gRowB t (T n) ⟨#[62]⟩) o ⟨i,0,0⟩ p else WrA t T o ⟨i,0,0⟩ p):=by
 have R:=rowLike (t:=t) (en:=⟨#[62]⟩) hT
 have exitA:∀{i:Nat} {o:List (List Nr)},kindB t i 0 0 4=false→Ev (fun _=>gArgsB t (o,false)) ⟨i,0,0⟩ ((false,(o,false)),⟨i,0,0⟩):=fun h=>Ev.bnd' ev_kind (Ev.no h Ev.ret')
 have key:∀{β:Bool} {i:Nat} {o:List (List Nr)} {r:List (List Nr) × Rs},(β=true∨kindB t i 0 0 4=false)→EvL (fun n=>gRowB t (T n) ⟨#[62]⟩) o ⟨i,0,0⟩ r→if β=true then EvL (fun n=>gRowB t (T n) ⟨#[62]⟩) o ⟨i,0,0⟩ r else EvA t T o ⟨i,0,0⟩ r:=fun{β i o r} h h2=>by
  cases β
  ·exact EvA.row (exitA (by simpa using h)) h2
  ·exact h2
 have keyw:∀{β:Bool} {i:Nat} {o:List (List Nr)} {p:Int},(β=true∨kindB t i 0 0 4=false)→WrL (fun n=>gRowB t (T n) ⟨#[62]⟩) o ⟨i,0,0⟩ p→if β=true then WrL (fun n=>gRowB t (T n) ⟨#[62]⟩) o ⟨i,0,0⟩ p else WrA t T o ⟨i,0,0⟩ p:=fun{β i o p} h h2=>by
  cases β
  ·exact WrA.row (exitA (by simpa using h)) h2
  ·exact h2
 refine⟨?_,?_,?_,?_,?_⟩
 ·rintro β β2 i j y o (⟨rfl,hk,⟨y1,j1,hE,e⟩|⟨p,_,e⟩⟩|⟨hk,⟨y1,j1,hE,e⟩|⟨p,_,e⟩⟩) hb
  ·obtain⟨rfl,rfl,rfl⟩:β2=false∧y=y1∧j=j1:=by simpa using e
   exact EvA.stop (Ev.bnd' ev_kind (Ev.yes hk (Ev.bnd' hE (Ev.bnd' (ev_eyes hb) (Ev.yes rfl Ev.ret')))))
  ·simp at e
  ·obtain⟨rfl,rfl,rfl⟩:β2=true∧y=y1∧j=j1:=by simpa using e
   exact key hk (EvL.stop (R.e1 hE hb))
  ·simp at e
 ·rintro β β2 i j y o r (⟨rfl,hk,⟨y1,j1,hE,e⟩|⟨p,_,e⟩⟩|⟨hk,⟨y1,j1,hE,e⟩|⟨p,_,e⟩⟩) hc hb h2
  ·obtain⟨rfl,rfl,rfl⟩:β2=false∧y=y1∧j=j1:=by simpa using e
   exact EvA.on (Ev.bnd' ev_kind (Ev.yes hk (Ev.bnd' hE (Ev.bnd' (ev_eno hb) (Ev.no rfl (Ev.seq (ev_wyes hc) Ev.ret')))))) h2
  ·simp at e
  ·obtain⟨rfl,rfl,rfl⟩:β2=true∧y=y1∧j=j1:=by simpa using e
   exact key hk (EvL.on (R.e2 hE hb hc) h2)
  ·simp at e
 ·rintro β β2 i j y o r (⟨rfl,hk,⟨y1,j1,hE,e⟩|⟨p,_,e⟩⟩|⟨hk,⟨y1,j1,hE,e⟩|⟨p,_,e⟩⟩) hc hb h2
  ·obtain⟨rfl,rfl,rfl⟩:β2=false∧y=y1∧j=j1:=by simpa using e
   exact WrA.on (Ev.bnd' ev_kind (Ev.yes hk (Ev.bnd' hE (Ev.bnd' (ev_eno hb) (Ev.no rfl (Ev.seq (ev_wyes hc) Ev.ret')))))) h2
  ·simp at e
  ·obtain⟨rfl,rfl,rfl⟩:β2=true∧y=y1∧j=j1:=by simpa using e
   exact keyw hk (WrL.on (R.e2 hE hb hc) h2)
  ·simp at e
 ·rintro β β2 i j y o (⟨rfl,hk,⟨y1,j1,hE,e⟩|⟨p,_,e⟩⟩|⟨hk,⟨y1,j1,hE,e⟩|⟨p,_,e⟩⟩) hc hb
  ·obtain⟨rfl,rfl,rfl⟩:β2=false∧y=y1∧j=j1:=by simpa using e
   exact WrA.here hT (Wr.snd ev_kind (Wr.yes hk (Wr.snd hE (Wr.snd (ev_eno hb) (Wr.no rfl (Wr.sq (wr_want hc) (fun _=>syt)))))))
  ·simp at e
  ·obtain⟨rfl,rfl,rfl⟩:β2=true∧y=y1∧j=j1:=by simpa using e
   exact keyw hk (WrL.here (R.e3 hE hb hc) R.sy)
  ·simp at e
 ·rintro β i o p (⟨rfl,hk,⟨y1,j1,hE,e⟩|⟨p,hW,e⟩⟩|⟨hk,⟨y1,j1,hE,e⟩|⟨p,hW,e⟩⟩)
  ·simp at e
  ·obtain rfl:=Sum.inr.inj e
   exact WrA.here hT (Wr.snd ev_kind (Wr.yes hk (Wr.fst hW (fun _ _=>syt))))
  ·simp at e
  ·obtain rfl:=Sum.inr.inj e
   exact keyw hk (WrL.here (R.e4 hW) R.sy)
theorem args_run (hT:∀n,Sy (T n)) {i:Nat} {x:Res} (h:SRun t (fun _=>gLife t) T i x):(∀F j,x=.inl (F,j)→Ev (fun n=>gArgs t (T n) n) ⟨i,0,0⟩ (F,⟨j,0,0⟩))∧∀p,x=.inr p→Wr (fun n=>gArgs t (T n) n) ⟨i,0,0⟩ p:=by
 obtain⟨k1,k2⟩:=(argsLike hT).run h
 refine⟨fun F j e=>?_,fun p e=>?_⟩
 ·obtain⟨a,ha⟩:EvA t T [] ⟨i,0,0⟩ (F,⟨j,0,0⟩):=k1 _ e
  exact⟨a,fun n hn=>ha n n hn hn⟩
 ·obtain⟨a,ha⟩:WrA t T [] ⟨i,0,0⟩ p:=k2 _ e
  exact⟨a,fun n hn=>ha n n hn hn⟩
end
def gPlainLife (t:Tk):GP (List Nr):=bnd (gAt t) (fun q=>bnd (gLifeName t) (fun s=>ret (nd 10 q 0 0 s [])))
def gPlainType (t:Tk):GP (List Nr):=bnd (gAt t) (fun q=>bnd (gName t) (fun s=>ret (nd 11 q 0 0 s [])))
def gGenM (t:Tk) (b:Bool) (fu:Nat):GP (List Nr):=bnd (gAt t) (fun q=>bnd (gLifeName t) (fun s=>bnd (cond b (gBounds t true fu) (ret [])) (fun ks=>ret (nd 10 q 0 0 s ks))))
def gGenO (t:Tk) (b:Bool) (fu:Nat):GP (List Nr):=bnd (gAt t) (fun q=>bnd (gName t) (fun s=>bnd (cond b (gBounds t false fu) (ret [])) (fun ks=>ret (nd 11 q 0 0 s ks))))
def gGenK (t:Tk) (o:List (List Nr)) (β:Bool) (y:List Nr):GP (Bool × (List (List Nr) × Bool)):=bnd (gEat t ⟨#[62]⟩) (fun b3=>cond b3 (ret (false,(o++[y],β))) (seq (gWant t ⟨#[44]⟩) (ret (true,(o++[y],β)))))
theorem at_kind {α:Type} {t:Tk} {β:Bool} {A B:Int→GP α}:bnd (gAt t) (fun q=>bnd (gKind t 0 4) (fun b2=>cond (b2&&!β) (A q) (B q)))=bnd (gKind t 0 4) (fun b2=>cond (b2&&!β) (bnd (gAt t) A) (bnd (gAt t) B)):=by
 funext s
 show cond (kindB t s.i s.k 0 4&&!β) _ _ s=cond (kindB t s.i s.k 0 4&&!β) _ _ s
 cases(kindB t s.i s.k 0 4&&!β)<;>rfl
theorem gensB_is {t:Tk} {b:Bool} {n:Nat} {o:List (List Nr)} {β:Bool}:gGensB t b n (o,β)=bnd gOk (fun b1=>cond b1 (bnd (gKind t 0 4) (fun b2=>cond (b2&&!β) (bnd (gGenM t b n) (gGenK t o β)) (bnd (gGenO t b n) (gGenK t o true)))) (ret (false,(o,β)))):=by
 unfold gGensB gGenM gGenO gGenK
 simp only[bnd_assoc,ret_bnd,at_kind]
theorem gensLike {t:Tk} {b:Bool}:SLike t (fun n=>gGenM t b n) (fun n=>gGenO t b n) (fun β o i r=>∃β2,EvL (fun n=>gGensB t b n) (o,β) ⟨i,0,0⟩ ((r.1,β2),⟨r.2,0,0⟩)) (fun β o i p=>WrL (fun n=>gGensB t b n) (o,β) ⟨i,0,0⟩ p):=by
 have sM:∀n,Sy (gGenM t b n):=fun n=>by unfold gGenM;exact syt
 have sO:∀n,Sy (gGenO t b n):=fun n=>by unfold gGenO;exact syt
 have sK:∀o β y,Sy (gGenK t o β y):=fun o β y=>by unfold gGenK;exact syt
 have sB:∀n y,Sy (gGensB t b n y):=fun n y=>by unfold gGensB;exact syt
 have st:∀{β β2:Bool} {i j:Nat} {y:List Nr} {o:List (List Nr)} {x:(Bool × (List (List Nr) × Bool)) × Rs},SEl t (fun n=>gGenM t b n) (fun n=>gGenO t b n) β i (.inl (β2,y,j))→Ev (fun _=>gGenK t o β2 y) ⟨j,0,0⟩ x→Ev (fun n=>gGensB t b n (o,β)) ⟨i,0,0⟩ x:=by
  intro β β2 i j y o x h hx
  have e:(fun n=>gGensB t b n (o,β))=(fun n=>bnd gOk (fun b1=>cond b1 (bnd (gKind t 0 4) (fun b2=>cond (b2&&!β) (bnd (gGenM t b n) (gGenK t o β)) (bnd (gGenO t b n) (gGenK t o true)))) (ret (false,(o,β))))):=by
   funext n
   exact gensB_is
  rw[e]
  refine Ev.bnd' ev_ok (Ev.yes rfl (Ev.bnd' ev_kind ?_))
  rcases h with⟨rfl,hk,⟨y1,j1,hE,e⟩|⟨p,_,e⟩⟩|⟨hk,⟨y1,j1,hE,e⟩|⟨p,_,e⟩⟩
  ·obtain⟨rfl,rfl,rfl⟩:β2=false∧y=y1∧j=j1:=by simpa using e
   exact Ev.yes (and_y hk rfl) (Ev.bnd' hE hx)
  ·simp at e
  ·obtain⟨rfl,rfl,rfl⟩:β2=true∧y=y1∧j=j1:=by simpa using e
   refine Ev.no ?_ (Ev.bnd' hE hx)
   rcases hk with rfl|hk
   ·exact and_r rfl
   ·exact and_l hk
  ·simp at e
 have sw:∀{β β2:Bool} {i j:Nat} {y:List Nr} {o:List (List Nr)} {p:Int},SEl t (fun n=>gGenM t b n) (fun n=>gGenO t b n) β i (.inl (β2,y,j))→Wr (fun _=>gGenK t o β2 y) ⟨j,0,0⟩ p→Wr (fun n=>gGensB t b n (o,β)) ⟨i,0,0⟩ p:=by
  intro β β2 i j y o x h hx
  have e:(fun n=>gGensB t b n (o,β))=(fun n=>bnd gOk (fun b1=>cond b1 (bnd (gKind t 0 4) (fun b2=>cond (b2&&!β) (bnd (gGenM t b n) (gGenK t o β)) (bnd (gGenO t b n) (gGenK t o true)))) (ret (false,(o,β))))):=by
   funext n
   exact gensB_is
  rw[e]
  refine Wr.snd ev_ok (Wr.yes rfl (Wr.snd ev_kind ?_))
  rcases h with⟨rfl,hk,⟨y1,j1,hE,e⟩|⟨p,_,e⟩⟩|⟨hk,⟨y1,j1,hE,e⟩|⟨p,_,e⟩⟩
  ·obtain⟨rfl,rfl,rfl⟩:β2=false∧y=y1∧j=j1:=by simpa using e
   exact Wr.yes (and_y hk rfl) (Wr.snd hE hx)
  ·simp at e
  ·obtain⟨rfl,rfl,rfl⟩:β2=true∧y=y1∧j=j1:=by simpa using e
   refine Wr.no ?_ (Wr.snd hE hx)
   rcases hk with rfl|hk
   ·exact and_r rfl
   ·exact and_l hk
  ·simp at e
 refine⟨?_,?_,?_,?_,?_⟩
 ·intro β β2 i j y o h hb
  exact⟨β2,EvL.stop (st h (Ev.bnd' (ev_eyes hb) (Ev.yes rfl Ev.ret')))⟩
 ·rintro β β2 i j y o r h hc hb ⟨β3,h2⟩
  exact⟨β3,EvL.on (st h (Ev.bnd' (ev_eno hb) (Ev.no rfl (Ev.seq (ev_wyes hc) Ev.ret')))) h2⟩
 ·intro β β2 i j y o p h hc hb h2
  exact WrL.on (st h (Ev.bnd' (ev_eno hb) (Ev.no rfl (Ev.seq (ev_wyes hc) Ev.ret')))) h2
 ·intro β β2 i j y o h hc hb
  exact WrL.here (sw h (Wr.snd (ev_eno hb) (Wr.no rfl (Wr.sq (wr_want hc) (fun _=>syt))))) sB
 ·intro β i o p h
  refine WrL.here ?_ sB
  have e:(fun n=>gGensB t b n (o,β))=(fun n=>bnd gOk (fun b1=>cond b1 (bnd (gKind t 0 4) (fun b2=>cond (b2&&!β) (bnd (gGenM t b n) (gGenK t o β)) (bnd (gGenO t b n) (gGenK t o true)))) (ret (false,(o,β))))):=by
   funext n
   exact gensB_is
  rw[e]
  refine Wr.snd ev_ok (Wr.yes rfl (Wr.snd ev_kind ?_))
  rcases h with⟨rfl,hk,⟨y1,j1,hE,e⟩|⟨p,hW,e⟩⟩|⟨hk,⟨y1,j1,hE,e⟩|⟨p,hW,e⟩⟩
  ·simp at e
  ·obtain rfl:=Sum.inr.inj e
   exact Wr.yes (and_y hk rfl) (Wr.fst hW (fun _ _=>sK _ _ _))
  ·simp at e
  ·obtain rfl:=Sum.inr.inj e
   refine Wr.no ?_ (Wr.fst hW (fun _ _=>sK _ _ _))
   rcases hk with rfl|hk
   ·exact and_r rfl
   ·exact and_l hk
theorem gens_run {t:Tk} {b:Bool} {i:Nat} {x:Res} (h:SRun t (fun n=>gGenM t b n) (fun n=>gGenO t b n) i x):(∀F j,x=.inl (F,j)→Ev (fun n=>bnd (loop (gGensB t b n) n ([],false)) (fun r=>ret r.1)) ⟨i,0,0⟩ (F,⟨j,0,0⟩))∧∀p,x=.inr p→Wr (fun n=>bnd (loop (gGensB t b n) n ([],false)) (fun r=>ret r.1)) ⟨i,0,0⟩ p:=by
 obtain⟨k1,k2⟩:=gensLike.run h
 refine⟨fun F j e=>?_,fun p e=>?_⟩
 ·obtain⟨β2,h2⟩:=k1 _ e
  exact Ev.bnd' h2.ev Ev.ret'
 ·exact Wr.fst (k2 _ e).wr (fun _ _=>Sy.ret)
end Go.Proofs.YtdplogkmkgekdaaGreatDoor.Pj
