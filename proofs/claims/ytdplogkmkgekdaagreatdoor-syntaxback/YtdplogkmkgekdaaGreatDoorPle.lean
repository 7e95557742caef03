/- The project's parser: functions, traits, impls. -/
import Derived.Test.YtdplogkmkgekdaaGreatDoorPkzn
import Derived.Test.YtdplogkmkgekdaaGreatDoorPkztc
import Derived.Test.YtdplogkmkgekdaaGreatDoorPkb
import Derived.Test.YtdplogkmkgekdaaGreatDoorPld
import Derived.Test.YtdplogkmkgekdaaGreatDoorPkzx
import Derived.Test.YtdplogkmkgekdaaGreatDoorTypes
set_option linter.all false
set_option maxRecDepth 100000
set_option maxHeartbeats 4000000
namespace Go.Proofs.YtdplogkmkgekdaaGreatDoor.Pj
open Go.RowKit
section
variable {w:World} {rb tb i:Nat} {cap:Cp} {t:Tk}
theorem jd {p:Prop} (h:p:=by first|rfl|decide|(simp only[Lib.toList_data];decide)):p:=h
theorem rJ {t:Tk} {i:Nat} {ss:List ByteArray} {s:ByteArray} (h:(ss.find? (fun w=>au t i 0 0 w))=some s):Ev (fun _=>nZ t ss) ⟨i,0,0⟩ (s,⟨i,0,0⟩):=Ev.of (by
 unfold nZ
 show some ((ss.find? (fun w=>au t i 0 0 w)).getD E0,_)=_
 rw[h]
 rfl)
theorem Jv {t:Tk} {i:Nat} {ss:List ByteArray} (h:(ss.find? (fun w=>au t i 0 0 w))=none):Ev (fun _=>nZ t ss) ⟨i,0,0⟩ (E0,⟨i,0,0⟩):=Ev.of (by
 unfold nZ
 show some ((ss.find? (fun w=>au t i 0 0 w)).getD E0,_)=_
 rw[h]
 rfl)
theorem Qh {N:Nat} (hU:bH 201 N (fun t n=>gG t n 2)) {w:World} {rb tb i:Nat} {cap:Cp} {t:Tk} (h:Rd w rb tb cap t i 0 0) (hN:t.len - i≤N+1) (h0:au t i 0 0 ⟨#[45]⟩=true):
 Calls Tryz.prog 201 #[.pointer (some ⟨rb,0,none⟩)] w (aP w rb tb cap t i True (fun n=>eG t (gG t n 2) (fK t (gG t n 1) (gG t n 6) n))):=by
 have hl:=h.l
 have aL:=h.eP
 have K0:=aD h0
 have HB:=aD h0
 have HS:Hid ((([⟨#[45]⟩,⟨#[33]⟩,⟨#[42]⟩,⟨#[38]⟩,⟨#[38,38]⟩]:List ByteArray).find? (fun w=>au t i 0 0 w))=some ⟨#[45]⟩):=by show _=_;simp only[List.find?,h0]
 have hj1:i+1<t.len:=(iY h.good h.lt HB.out).2
 have jT:=eX
 have htx:=h.good.nK i
 go_enter Tryz.func201,Tryz.ntmps201
 have q:=Mf.start h
 go_wp2_with fail
 refine(q.ne' (sz w) (aJ)).lf (dx · 28) ?_
 clear q
 intro w1 q
 have F:=q.f1
 go_wp2_with fail
 refine(q.ne' (sz w1) (nk 28 (t.pos i) nl)).lf (iX · _ (ask)) ?_
 clear q F
 intro w2 q
 have F:=q.f2
 go_wp2_with fail
 refine q.yw hj1 ?_
 clear q F
 intro w3 q
 have F:=q.f2
 go_wp2_with fail
 refine(q.jm (t.text i)).nd (fun hr=>hU hr (by have:=hr.lt;omega)) (fun w' p hk hw=>⟨rfl,.inr ((q.jm (t.text i)).aR hk (by unfold eG;exact Wr.snd bL (Wr.snd (rJ HS.out) (Wr.no (jd) (Wr.o8 (bP HB.out) (Wr.yes (mW (jd)) (Wr.fst hw (fun _ _=>Sy.ret))))))))⟩) ?_
 clear q F
 intro w4 x5 i5 y5 hl5 m5 q
 have F:=q.f2
 have Qi:=Ej HB.out
 have HTX:=aD Qi
 clear Qi
 go_wp2_with fail
 go_light
 refine Mf.rt ((q.fE (sl (sz w4) 1)).l1 (sz w4) 28 (t.pos i) 0 0 (t.text i) aL (by omega)) Tryz.results201 1 (by rw[HTX.out];unfold eG;exact Ev.ak bL (Ev.ak (rJ HS.out) (Ev.no (jd) (Ev.seq (bP HB.out) (Ev.yes (mW (jd)) (Ev.ak m5 Ev.ret')))))) ?_
 simp[bC,World.setCell_alloc_past,F,Nat.lt_succ_of_lt]
theorem Qj {N:Nat} (hU:bH 201 N (fun t n=>gG t n 2)) {w:World} {rb tb i:Nat} {cap:Cp} {t:Tk} (h:Rd w rb tb cap t i 0 0) (hN:t.len - i≤N+1) (h0:au t i 0 0 ⟨#[45]⟩=false) (h1:au t i 0 0 ⟨#[33]⟩=true):
 Calls Tryz.prog 201 #[.pointer (some ⟨rb,0,none⟩)] w (aP w rb tb cap t i True (fun n=>eG t (gG t n 2) (fK t (gG t n 1) (gG t n 6) n))):=by
 have hl:=h.l
 have aL:=h.eP
 have K0:=aD h0
 have K1:=aD h1
 have HB:=aD h1
 have HS:Hid ((([⟨#[45]⟩,⟨#[33]⟩,⟨#[42]⟩,⟨#[38]⟩,⟨#[38,38]⟩]:List ByteArray).find? (fun w=>au t i 0 0 w))=some ⟨#[33]⟩):=by show _=_;simp only[List.find?,h0,h1]
 have hj1:i+1<t.len:=(iY h.good h.lt HB.out).2
 have jT:=eX
 have htx:=h.good.nK i
 go_enter Tryz.func201,Tryz.ntmps201
 have q:=Mf.start h
 go_wp2_with fail
 refine(q.ne' (sz w) (aJ)).lf (dx · 28) ?_
 clear q
 intro w1 q
 have F:=q.f1
 go_wp2_with fail
 refine(q.ne' (sz w1) (nk 28 (t.pos i) nl)).lf (iX · _ (ask)) ?_
 clear q F
 intro w2 q
 have F:=q.f2
 go_wp2_with fail
 refine q.lf (iX · _ (ask)) ?_
 clear q F
 intro w3 q
 have F:=q.f2
 go_wp2_with fail
 refine q.yw hj1 ?_
 clear q F
 intro w4 q
 have F:=q.f2
 go_wp2_with fail
 refine(q.jm (t.text i)).nd (fun hr=>hU hr (by have:=hr.lt;omega)) (fun w' p hk hw=>⟨rfl,.inr ((q.jm (t.text i)).aR hk (by unfold eG;exact Wr.snd bL (Wr.snd (rJ HS.out) (Wr.no (jd) (Wr.o8 (bP HB.out) (Wr.yes (dZ (jd)) (Wr.fst hw (fun _ _=>Sy.ret))))))))⟩) ?_
 clear q F
 intro w5 x5 i5 y5 hl5 m5 q
 have F:=q.f2
 have Qi:=Ej HB.out
 have HTX:=aD Qi
 clear Qi
 go_wp2_with fail
 go_light
 refine Mf.rt ((q.fE (sl (sz w5) 1)).l1 (sz w5) 28 (t.pos i) 0 0 (t.text i) aL (by omega)) Tryz.results201 1 (by rw[HTX.out];unfold eG;exact Ev.ak bL (Ev.ak (rJ HS.out) (Ev.no (jd) (Ev.seq (bP HB.out) (Ev.yes (dZ (jd)) (Ev.ak m5 Ev.ret')))))) ?_
 simp[bC,World.setCell_alloc_past,F,Nat.lt_succ_of_lt]
theorem Qk {N:Nat} (hU:bH 201 N (fun t n=>gG t n 2)) {w:World} {rb tb i:Nat} {cap:Cp} {t:Tk} (h:Rd w rb tb cap t i 0 0) (hN:t.len - i≤N+1) (h0:au t i 0 0 ⟨#[45]⟩=false) (h1:au t i 0 0 ⟨#[33]⟩=false) (h2:au t i 0 0 ⟨#[42]⟩=true):
 Calls Tryz.prog 201 #[.pointer (some ⟨rb,0,none⟩)] w (aP w rb tb cap t i True (fun n=>eG t (gG t n 2) (fK t (gG t n 1) (gG t n 6) n))):=by
 have hl:=h.l
 have aL:=h.eP
 have K0:=aD h0
 have K1:=aD h1
 have K2:=aD h2
 have HB:=aD h2
 have HS:Hid ((([⟨#[45]⟩,⟨#[33]⟩,⟨#[42]⟩,⟨#[38]⟩,⟨#[38,38]⟩]:List ByteArray).find? (fun w=>au t i 0 0 w))=some ⟨#[42]⟩):=by show _=_;simp only[List.find?,h0,h1,h2]
 clear h2
 have hj1:i+1<t.len:=(iY h.good h.lt HB.out).2
 have jT:=eX
 have htx:=h.good.nK i
 go_enter Tryz.func201,Tryz.ntmps201
 have q:=Mf.start h
 go_wp2_with fail
 refine(q.ne' (sz w) (aJ)).lf (dx · 28) ?_
 clear q
 intro w1 q
 have F:=q.f1
 go_wp2_with fail
 refine(q.ne' (sz w1) (nk 28 (t.pos i) nl)).lf (iX · _ (ask)) ?_
 clear q F
 intro w2 q
 have F:=q.f2
 go_wp2_with fail
 refine q.lf (iX · _ (ask)) ?_
 clear q F
 intro w3 q
 have F:=q.f2
 go_wp2_with fail
 refine q.et (cO · _ (ask)) ?_
 clear q F
 intro w4 b2 i2 hE2 m2 q
 have F:=q.f2
 obtain rfl:b2=true:=hE2.jE.trans K2.out
 obtain rfl:=(hE2.yes rfl).1
 go_wp2_with fail
 refine(q.IK 26).nd (fun hr=>hU hr (by have:=hr.lt;omega)) (fun w' p hk hw=>⟨rfl,.inr ((q.IK 26).aR hk (by unfold eG;exact Wr.snd bL (Wr.snd (rJ HS.out) (Wr.no (jd) (Wr.o8 (bP HB.out) (Wr.no (jh (jd) (jd)) (Wr.yes (jd) (Wr.fst hw (fun _ _=>Sy.ret)))))))))⟩) ?_
 clear q F
 intro w5 x5 i5 y5 hl5 m5 q
 have F:=q.f2
 go_wp2_with fail
 go_light
 refine Mf.rt ((q.fE (sl (sz w5) 1)).l1 (sz w5) 26 (t.pos i) 0 0 ⟨#[]⟩ aL) Tryz.results201 1 (by unfold eG;exact Ev.ak bL (Ev.ak (rJ HS.out) (Ev.no (jd) (Ev.seq (bP HB.out) (Ev.no (jh (jd) (jd)) (Ev.yes (jd) (Ev.ak m5 Ev.ret'))))))) ?_
 simp[bC,World.setCell_alloc_past,F,Nat.lt_succ_of_lt]
theorem Ql {N:Nat} (hU:bH 201 N (fun t n=>gG t n 2)) {w:World} {rb tb i:Nat} {cap:Cp} {t:Tk} (h:Rd w rb tb cap t i 0 0) (hN:t.len - i≤N+1) (h0:au t i 0 0 ⟨#[45]⟩=false) (h1:au t i 0 0 ⟨#[33]⟩=false) (h2:au t i 0 0 ⟨#[42]⟩=false) (h3:au t i 0 0 ⟨#[38]⟩=true):
 Calls Tryz.prog 201 #[.pointer (some ⟨rb,0,none⟩)] w (aP w rb tb cap t i True (fun n=>eG t (gG t n 2) (fK t (gG t n 1) (gG t n 6) n))):=by
 have hl:=h.l
 have aL:=h.eP
 have K0:=aD h0
 have K1:=aD h1
 have K2:=aD h2
 have K3:=aD h3
 have HB:=aD h3
 have HS:Hid ((([⟨#[45]⟩,⟨#[33]⟩,⟨#[42]⟩,⟨#[38]⟩,⟨#[38,38]⟩]:List ByteArray).find? (fun w=>au t i 0 0 w))=some ⟨#[38]⟩):=by show _=_;simp only[List.find?,h0,h1,h2,h3]
 clear h2 h3
 have hj1:i+1<t.len:=(iY h.good h.lt HB.out).2
 have jT:=eX
 have htx:=h.good.nK i
 go_enter Tryz.func201,Tryz.ntmps201
 have q:=Mf.start h
 go_wp2_with fail
 refine(q.ne' (sz w) (aJ)).lf (dx · 28) ?_
 clear q
 intro w1 q
 have F:=q.f1
 go_wp2_with fail
 refine(q.ne' (sz w1) (nk 28 (t.pos i) nl)).lf (iX · _ (ask)) ?_
 clear q F
 intro w2 q
 have F:=q.f2
 go_wp2_with fail
 refine q.lf (iX · _ (ask)) ?_
 clear q F
 intro w3 q
 have F:=q.f2
 go_wp2_with fail
 refine q.et (cO · _ (ask)) ?_
 clear q F
 intro w4 b2 i2 hE2 m2 q
 have F:=q.f2
 obtain rfl:b2=false:=hE2.jE.trans K2.out
 obtain rfl:i=i2:=(hE2.no rfl).symm
 go_wp2_with fail
 refine q.et (cO · _ (ask)) ?_
 clear q F
 intro w5 b3 i3 eu m3 q
 have F:=q.f2
 obtain rfl:b3=true:=eu.jE.trans K3.out
 obtain rfl:=(eu.yes rfl).1
 go_wp2_with fail
 refine q.nd (fun hr=>UN hU hr (by have:=hr.lt;omega) aL) (fun w' p hk hw=>⟨rfl,.inr (q.aR hk (by unfold qH at hw;unfold eG;exact Wr.snd bL (Wr.snd (rJ HS.out) (Wr.no (jd) (Wr.o8 (bP HB.out) (Wr.no (jh (jd) (jd)) (Wr.no (jd) (Wr.yes (jd) (hw)))))))))⟩) ?_
 clear q F
 intro w6 x5 i5 y5 hl5 m5 q
 have F:=q.f2
 go_wp2_with fail
 go_light
 exact Mf.rt (q) Tryz.results201 1 (by unfold qH at m5;unfold eG;exact Ev.ak bL (Ev.ak (rJ HS.out) (Ev.no (jd) (Ev.seq (bP HB.out) (Ev.no (jh (jd) (jd)) (Ev.no (jd) (Ev.yes (jd) (m5))))))))
theorem Qm {N:Nat} (hU:bH 201 N (fun t n=>gG t n 2)) {w:World} {rb tb i:Nat} {cap:Cp} {t:Tk} (h:Rd w rb tb cap t i 0 0) (hN:t.len - i≤N+1) (h0:au t i 0 0 ⟨#[45]⟩=false) (h1:au t i 0 0 ⟨#[33]⟩=false) (h2:au t i 0 0 ⟨#[42]⟩=false) (h3:au t i 0 0 ⟨#[38]⟩=false) (h4:au t i 0 0 ⟨#[38,38]⟩=true):
 Calls Tryz.prog 201 #[.pointer (some ⟨rb,0,none⟩)] w (aP w rb tb cap t i True (fun n=>eG t (gG t n 2) (fK t (gG t n 1) (gG t n 6) n))):=by
 have hl:=h.l
 have aL:=h.eP
 have K0:=aD h0
 have K1:=aD h1
 have K2:=aD h2
 have K3:=aD h3
 have K4:=aD h4
 have HB:=aD h4
 have HS:Hid ((([⟨#[45]⟩,⟨#[33]⟩,⟨#[42]⟩,⟨#[38]⟩,⟨#[38,38]⟩]:List ByteArray).find? (fun w=>au t i 0 0 w))=some ⟨#[38,38]⟩):=by show _=_;simp only[List.find?,h0,h1,h2,h3,h4]
 clear h2 h3 h4
 have hj1:i+1<t.len:=(iY h.good h.lt HB.out).2
 have jT:=eX
 have htx:=h.good.nK i
 go_enter Tryz.func201,Tryz.ntmps201
 have q:=Mf.start h
 go_wp2_with fail
 refine(q.ne' (sz w) (aJ)).lf (dx · 28) ?_
 clear q
 intro w1 q
 have F:=q.f1
 go_wp2_with fail
 refine(q.ne' (sz w1) (nk 28 (t.pos i) nl)).lf (iX · _ (ask)) ?_
 clear q F
 intro w2 q
 have F:=q.f2
 go_wp2_with fail
 refine q.lf (iX · _ (ask)) ?_
 clear q F
 intro w3 q
 have F:=q.f2
 go_wp2_with fail
 refine q.et (cO · _ (ask)) ?_
 clear q F
 intro w4 b2 i2 hE2 m2 q
 have F:=q.f2
 obtain rfl:b2=false:=hE2.jE.trans K2.out
 obtain rfl:i=i2:=(hE2.no rfl).symm
 go_wp2_with fail
 refine q.et (cO · _ (ask)) ?_
 clear q F
 intro w5 b3 i3 eu m3 q
 have F:=q.f2
 obtain rfl:b3=false:=eu.jE.trans K3.out
 obtain rfl:i=i3:=(eu.no rfl).symm
 go_wp2_with fail
 refine q.et (cO · _ (ask)) ?_
 clear q F
 intro w6 b4 i4 nC m4 q
 have F:=q.f2
 obtain rfl:b4=true:=nC.jE.trans K4.out
 obtain rfl:=(nC.yes rfl).1
 have lZ:(0:Int)≤(t.pos i:Int)+1∧(t.pos i:Int)+1≤7000:=by have:=h.good.qg i;omega
 go_wp2_with fail
 refine(q.IK 27).nd (fun hr=>UN hU hr (by have:=hr.lt;omega) lZ) (fun w' p hk hw=>⟨rfl,.inr ((q.IK 27).aR hk (by
  have hw2:Wr (fun n=>bnd (qH t (gG t n 2) ((t.pos i:Int)+1)) (fun y=>ret (nd 27 (t.pos i) 0 0 E0 [y]))) ⟨i+1,0,0⟩ p:=Wr.fst hw (fun _ _=>Sy.ret)
  unfold qH at hw2
  simp only[bU,gB] at hw2
  unfold eG
  exact Wr.snd bL (Wr.snd (rJ HS.out) (Wr.no (jd) (Wr.o8 (bP HB.out) (Wr.no (jh (jd) (jd)) (Wr.no (jd) (Wr.no (jd) (hw2)))))))))⟩) ?_
 clear q F
 intro w7 x5 i5 y5 hl5 m5 q
 have F:=q.f2
 go_wp2_with fail
 go_light
 refine Mf.rt ((q.fE (sl (sz w7) 1)).l1 (sz w7) 27 (t.pos i) 0 0 ⟨#[]⟩ aL) Tryz.results201 1 (by
  have m6:Ev (fun n=>bnd (qH t (gG t n 2) ((t.pos i:Int)+1)) (fun y=>ret (nd 27 (t.pos i) 0 0 E0 [y]))) ⟨i+1,0,0⟩ _:=Ev.ak m5 Ev.ret'
  unfold qH at m6
  simp only[bU,gB] at m6
  unfold eG
  exact Ev.ak bL (Ev.ak (rJ HS.out) (Ev.no (jd) (Ev.seq (bP HB.out) (Ev.no (jh (jd) (jd)) (Ev.no (jd) (Ev.no (jd) (m6)))))))) ?_
 simp[bC,World.setCell_alloc_past,F,Nat.lt_succ_of_lt]
theorem Qn {N:Nat} (hU:bH 201 N (fun t n=>gG t n 2)) (hX:∀{w:World} {rb tb i:Nat} {cap:Cp} {t:Tk},Rd w rb tb cap t i 0 0→t.len - i≤N+1→Calls Tryz.prog 222 #[.pointer (some ⟨rb,0,none⟩)] w (aP w rb tb cap t i True (fun n=>fK t (gG t n 1) (gG t n 6) n))) {w:World} {rb tb i:Nat} {cap:Cp} {t:Tk} (h:Rd w rb tb cap t i 0 0) (hN:t.len - i≤N+1) (h0:au t i 0 0 ⟨#[45]⟩=false) (h1:au t i 0 0 ⟨#[33]⟩=false) (h2:au t i 0 0 ⟨#[42]⟩=false) (h3:au t i 0 0 ⟨#[38]⟩=false) (h4:au t i 0 0 ⟨#[38,38]⟩=false):
 Calls Tryz.prog 201 #[.pointer (some ⟨rb,0,none⟩)] w (aP w rb tb cap t i True (fun n=>eG t (gG t n 2) (fK t (gG t n 1) (gG t n 6) n))):=by
 have hl:=h.l
 have aL:=h.eP
 have K0:=aD h0
 have K1:=aD h1
 have K2:=aD h2
 have K3:=aD h3
 have K4:=aD h4
 have HS:Hid ((([⟨#[45]⟩,⟨#[33]⟩,⟨#[42]⟩,⟨#[38]⟩,⟨#[38,38]⟩]:List ByteArray).find? (fun w=>au t i 0 0 w))=none):=by show _=_;simp only[List.find?,h0,h1,h2,h3,h4]
 clear h2 h3 h4
 skip
 have jT:=eX
 have htx:=h.good.nK i
 go_enter Tryz.func201,Tryz.ntmps201
 have q:=Mf.start h
 go_wp2_with fail
 refine(q.ne' (sz w) (aJ)).lf (dx · 28) ?_
 clear q
 intro w1 q
 have F:=q.f1
 go_wp2_with fail
 refine(q.ne' (sz w1) (nk 28 (t.pos i) nl)).lf (iX · _ (ask)) ?_
 clear q F
 intro w2 q
 have F:=q.f2
 go_wp2_with fail
 refine q.lf (iX · _ (ask)) ?_
 clear q F
 intro w3 q
 have F:=q.f2
 go_wp2_with fail
 refine q.et (cO · _ (ask)) ?_
 clear q F
 intro w4 b2 i2 hE2 m2 q
 have F:=q.f2
 obtain rfl:b2=false:=hE2.jE.trans K2.out
 obtain rfl:i=i2:=(hE2.no rfl).symm
 go_wp2_with fail
 refine q.et (cO · _ (ask)) ?_
 clear q F
 intro w5 b3 i3 eu m3 q
 have F:=q.f2
 obtain rfl:b3=false:=eu.jE.trans K3.out
 obtain rfl:i=i3:=(eu.no rfl).symm
 go_wp2_with fail
 refine q.et (cO · _ (ask)) ?_
 clear q F
 intro w6 b4 i4 nC m4 q
 have F:=q.f2
 obtain rfl:b4=false:=nC.jE.trans K4.out
 obtain rfl:i=i4:=(nC.no rfl).symm
 go_wp2_with fail
 refine q.nd (fun hr=>hX hr hN) (fun w' p hk hw=>⟨rfl,.inr (q.aR hk (by unfold eG;exact Wr.snd bL (Wr.snd (Jv HS.out) (Wr.yes rfl hw))))⟩) ?_
 clear q F
 intro w7 x5 i5 y5 hl5 m5 q
 have F:=q.f2
 go_wp2_with fail
 go_light
 exact Mf.rt (q) Tryz.results201 1 (by unfold eG;exact Ev.ak bL (Ev.ak (Jv HS.out) (Ev.yes rfl m5)))
theorem Qo {N:Nat} (hU:bH 201 N (fun t n=>gG t n 2)) (hX:∀{w:World} {rb tb i:Nat} {cap:Cp} {t:Tk},Rd w rb tb cap t i 0 0→t.len - i≤N+1→Calls Tryz.prog 222 #[.pointer (some ⟨rb,0,none⟩)] w (aP w rb tb cap t i True (fun n=>fK t (gG t n 1) (gG t n 6) n))):bH 201 (N+1) (fun t n=>gG t n 2):=by
 intro w rb tb i cap t h hN
 have key:Calls Tryz.prog 201 #[.pointer (some ⟨rb,0,none⟩)] w (aP w rb tb cap t i True (fun n=>eG t (gG t n 2) (fK t (gG t n 1) (gG t n 6) n))):=by
  cases h0:au t i 0 0 ⟨#[45]⟩
  ·cases h1:au t i 0 0 ⟨#[33]⟩
   ·cases h2:au t i 0 0 ⟨#[42]⟩
    ·cases h3:au t i 0 0 ⟨#[38]⟩
     ·cases h4:au t i 0 0 ⟨#[38,38]⟩
      ·exact Qn hU hX h hN h0 h1 h2 h3 h4
      ·exact Qm hU h hN h0 h1 h2 h3 h4
     ·exact Ql hU h hN h0 h1 h2 h3
    ·exact Qk hU h hN h0 h1 h2
   ·exact Qj hU h hN h0 h1
  ·exact Qh hU h hN h0
 exact key.mono fun e w' p=>p.to (fun r hr=>hr.up (fun _=>rfl)) (fun p hw=>hw.up (fun _=>rfl))
end
section
variable {w:World} {rb tb i:Nat} {cap:Cp} {t:Tk}
theorem Gw {N:Nat} (hT:bH 70 N (fun t n=>gG t n 0)) (hB:bH 75 N (fun t n=>gG t n 3)) {w:World} {rb tb i:Nat} {cap:Cp} {t:Tk} (h:Rd w rb tb cap t i 0 0) (hN:t.len - i≤N+1) {kG:Nat} {Gu Gv:Array Value} {b:Bool} (Qg:fZ kG) (HG:∀{w' j},Rd w' rb tb cap t j 0 0→Calls Tryz.prog kG (Gu++Gv) w' (aP w' rb tb cap t j False (fun n=>pW t b n))):
 Calls Tryz.prog 142 #[.pointer (some ⟨rb,0,none⟩),.func (.func kG) Gu Gv] w (aP w rb tb cap t i True (fun n=>zF t (gG t n 0) (gG t n 3) b n)):=by
 have hl:=h.l
 have aL:=h.eP
 have HHG:=@aG _ @HG
 have HIG:=aD Qg
 clear HG Qg
 go_enter Tryz.func142,Tryz.ntmps142
 have q:=Mf.start h
 go_wp2_with fail
 refine(q.ne' (sz w) (aJ)).sg (fun hr=>Er hT hr hN HIG.out HHG.out) (fun w' p hk hw=>⟨rfl,.inr ((q.ne' (sz w) (aJ)).aR hk (Wr.fst hw (fun _ _=>aA)))⟩) ?_
 clear q
 intro w1 n1 s1 ao1 cp1 vs1 i1 V1 hs1 hl1 m1 q
 have F:=q.f1
 have HL:=aD hl1.out.2
 go_wp2_with fail
 go_region_law (first|(refine q.as (sz w2) (Nat.le_trans HL.out (by decide)) ?_;clear q F;intro w3 Mc cp2 q;have F:=q.f2)|(replace q:=(q.ne' (sz w1) (ah 8 (t.pos i) n1 0 s1 (.slice ao1 vs1.length cp1))).drew;go_simp;refine q.nd (fun hr=>hB hr (by have:=hr.lt;have:=q.go trivial;omega)) (fun w' p hk hw=>⟨rfl,.inr (q.aR hk (Wr.snd m1 (Wr.fst hw (fun _ _=>Sy.ret))))⟩) ?_;clear q F;intro w2 x2 i2 y2 hl2 m2 q;have F:=q.f2))
 all_goals
  go_wp2_with fail
  go_light
  exact Mf.rt ((q.fE (.slice Mc (vs1.length+1) cp2)).fo 8 (t.pos i) n1 0 s1 (by have:=HL.out;simp;omega) aL hs1) Tryz.results142 1 (Ev.ak m1 (Ev.ak (f:=fun _ z=>ret (nd 8 (t.pos i) n1 0 s1 (V1++[z]))) m2 Ev.ret'))
theorem XB {N:Nat} (hT:bH 70 N (fun t n=>gG t n 0)) (hB:bH 75 N (fun t n=>gG t n 3)) {w:World} {rb tb i:Nat} {cap:Cp} {t:Tk} (h:Rd w rb tb cap t i 0 0) (hN:t.len - i≤N+1):
 Calls Tryz.prog 64 #[.pointer (some ⟨rb,0,none⟩)] w (aP w rb tb cap t i True (fun n=>zF t (gG t n 0) (gG t n 3) true n)):=by
 have hl:=h.l
 go_enter Tryz.func64,Tryz.ntmps64
 have q:=Mf.start h
 go_wp2_with fail
 refine(q.ne' (sz w) (aJ)).nd (fun hr=>Gw hT hB hr hN (Gu:=#[.pointer (some ⟨rb,0,none⟩)]) (Gv:=#[]) abt (fun{w' j} hr'=>by simpa using abu hr')) (fun w' p hk hw=>⟨rfl,.inr ((q.ne' (sz w) (aJ)).aR hk hw)⟩) ?_
 clear q
 intro w1 x1 i1 y1 hl1 m1 q
 have F:=q.f1
 go_wp2_with fail
 go_light
 exact Mf.rt q Tryz.results64 0 m1
theorem abv {N:Nat} (hT:bH 70 N (fun t n=>gG t n 0)) {w:World} {rb tb i:Nat} {cap:Cp} {t:Tk} (h:Rd w rb tb cap t i 0 0) (hN:t.len - i≤N+1) (hb:au t i 0 0 ⟨#[116,114,97,105,116]⟩=true):
 Calls Tryz.prog 63 #[.pointer (some ⟨rb,0,none⟩)] w (aP w rb tb cap t i True (fun n=>seq (dK 1) (nH t (gG t n 0) (t.pos i) 0 n))):=by
 have hl:=h.l
 have aL:=h.eP
 have HB:=aD hb
 clear hb
 have HS:Hid (∀n x,Sy (iP t (gG t n 0) n x)):=fun n x=>by unfold iP;exact aA
 go_enter Tryz.func63,Tryz.ntmps63
 have q:=Mf.start h
 go_wp2_with fail
 refine(q.ne' (sz w) (aJ)).lf (dx · 6) ?_
 clear q
 intro w1 q
 have F:=q.f1
 go_wp2_with fail
 refine(q.ne' (sz w1) (nk 6 (t.pos i) nl)).wy (dw · _ (ask)) HB.out ?_
 clear q F
 intro w2 q
 have F:=q.f2
 go_wp2_with fail
 refine q.nm (kD ·) (fun w' p hk hw=>⟨rfl,.inr (q.aR hk (by unfold nH iP;exact wrt))⟩) ?_
 clear q F
 intro w3 s3 i3 hs3 hl3 m3 q
 have F:=q.f2
 go_wp2_with fail
 refine(q.jm s3).wn (dw · _ (ask)) (fun w' hk hw=>⟨rfl,.inr ((q.jm s3).aR hk (by unfold nH iP;exact wrt))⟩) ?_
 clear q F
 intro w4 m4 q
 have F:=q.f2
 have HE:Hid (∀r,EvL (fun n=>iP t (gG t n 0) n) [] ⟨i3+1,0,0⟩ r→Ev (fun n=>seq (dK 1) (nH t (gG t n 0) (t.pos i) 0 n)) ⟨i,0,0⟩ (nd 6 (t.pos i:Int) 0 0 s3 r.1,r.2)):=fun r hr=>by unfold nH;exact bS
 have HW:Hid (∀p,bZ (fun n=>iP t (gG t n 0) n) [] ⟨i3+1,0,0⟩ p→Wr (fun n=>seq (dK 1) (nH t (gG t n 0) (t.pos i) 0 n)) ⟨i,0,0⟩ p):=fun p hp=>by unfold nH;exact wrt
 go_wp2_with fail
 go_loopg [] (t.len - (i3+1)) (fun g wr=>∃(v:Value) (vs:List (List Value)) (j:Nat) (V:List (List Nr)),g=t.len - j∧Hid (vs.length≤j)∧Mf w rb tb cap t i True wr j [(sz w1,ah 6 (t.pos i) 0 0 s3 v),(sz w,aJ)] [] v vs [] V∧Hid ((∀r,EvL (fun n=>iP t (gG t n 0) n) V ⟨j,0,0⟩ r→EvL (fun n=>iP t (gG t n 0) n) [] ⟨i3+1,0,0⟩ r)∧∀p,bZ (fun n=>iP t (gG t n 0) n) V ⟨j,0,0⟩ p→bZ (fun n=>iP t (gG t n 0) n) [] ⟨i3+1,0,0⟩ p))
 case atStart=>exact⟨nl,[],i3+1,[],rfl,Nat.zero_le _,q,⟨fun r h=>h,fun p h=>h⟩⟩
 case round=>
  clear F q
  obtain⟨v,vs,j,V,eD,HL,q,HM⟩:=hrel
  have HG:=@aG _ @eD
  clear eD
  have hjl:=q.st.rd.lt
  have hij:=q.go trivial
  have tV:Hid (vs.length≤6001):=by show vs.length≤6001;have:=HL.out;have:=h.good.few;omega
  obtain⟨Ay,Az,rfl⟩:=q.shape
  have F:=q.f2
  go_wp2_with fail
  refine q.et (cO · _ (ask)) ?_
  clear q F
  intro w5 b5 i5 Aa m5 q
  have F:=q.f2
  cases b5
  ·obtain rfl:j=i5:=(Aa.no rfl).symm
   clear Aa
   have HTL:Hid (∀p,Wr (fun n=>Sj t (gG t n 0) false n) ⟨j,0,0⟩ p→Wr (fun n=>seq (dK 1) (nH t (gG t n 0) (t.pos i) 0 n)) ⟨i,0,0⟩ p):=fun p hw=>HW.out _ (HM.out.2 _ (bZ.here (by unfold Sj at hw;unfold iP;exact Wr.snd bT (Wr.snd (Ev.yes rfl m5) (Wr.no rfl (Wr.fst hw (fun _ _=>aA))))) HS.out))
   go_wp2_with fail
   go_region_law (first|(refine q.as (sz w6) (Nat.le_trans tV.out (by decide)) ?_;clear q F;intro w7 yt yu q;have F:=q.f2)|(replace q:=q.drew;go_simp;refine q.nd (fun hr=>(Er hT hr (by omega) (Gu:=#[.pointer (some ⟨rb,0,none⟩)]) (Gv:=#[]) Qe (fun{w' j} hr'=>by simpa using Qf hr')).mono (fun e w' p=>Ju.node hr p)) (fun w' p hk hw=>⟨rfl,.inr (q.aR hk (HTL.out _ hw))⟩) ?_;clear q F;intro w6 x6 i6 y6 mq m6 q;have F:=q.f2))
   all_goals
    have M5:=aD m5
    have M6:=@aG _ @m6
    clear m5 m6
    go_wp2_with fail
    refine(q.fE (.slice yt (vs.length+1) yu)).wn (dw · _ (ask)) (fun w' hk hw=>⟨rfl,.inr ((q.fE (.slice yt (vs.length+1) yu)).aR hk (HW.out _ (HM.out.2 _ (bZ.here (by have m5:=M5.out;have m6:=M6.out;unfold iP;exact Wr.snd bT (Wr.snd (Ev.yes rfl m5) (Wr.no rfl (Wr.snd m6 (Wr.sq hw (fun _=>Sy.ret)))))) HS.out))))⟩) ?_
    clear q F
    intro w8 m8 q
    have F:=q.f2
    have M8:=aD m8
    clear m8
    have mq:=mq.out
    have PD:=q.st.rd.lt
    go_wp2_with fail
    go_roundg (t.len - (i6+1))
    case measure=>rw[HG.out];omega
    case rel=>exact⟨_,_,i6+1,_,rfl,(by show(vs++_).length≤i6+1;have:=HL.out;simp;omega),q,⟨fun r hr=>HM.out.1 r (EvL.on (by have m5:=M5.out;have m6:=M6.out;have m8:=M8.out;unfold iP;exact Ev.ak bT (Ev.ak (Ev.yes rfl m5) (Ev.no rfl (Ev.ak m6 (Ev.seq m8 Ev.ret'))))) hr),fun p hp=>HM.out.2 p (bZ.on (by have m5:=M5.out;have m6:=M6.out;have m8:=M8.out;unfold iP;exact Ev.ak bT (Ev.ak (Ev.yes rfl m5) (Ev.no rfl (Ev.ak m6 (Ev.seq m8 Ev.ret'))))) hp)⟩⟩
  ·clear Aa
   have M5:=aD m5
   clear m5
   go_wp2_with fail
   go_light
   exact Mf.rt (q.fo 6 (t.pos i) 0 0 s3 (Nat.le_trans tV.out (by decide)) aL hs3) Tryz.results63 1 (HE.out _ (HM.out.1 _ (EvL.stop (by have m5:=M5.out;unfold iP;exact Ev.ak bT (Ev.ak (Ev.yes rfl m5) (Ev.yes rfl Ev.ret'))))))
theorem adZ {N:Nat} (hT:bH 70 N (fun t n=>gG t n 0)) (hB:bH 75 N (fun t n=>gG t n 3)) {w:World} {rb tb i:Nat} {cap:Cp} {t:Tk} (h:Rd w rb tb cap t i 0 0) (hN:t.len - i≤N+1):
 Calls Tryz.prog 165 #[.pointer (some ⟨rb,0,none⟩)] w (aP w rb tb cap t i True (fun n=>kg t (gG t n 0) (gG t n 3) n)):=by
 have hl:=h.l
 have aL:=h.eP
 have HS:Hid (∀n x,Sy (jJ t (gG t n 0) (gG t n 3) n x)):=fun n x=>by unfold jJ;exact aA
 go_enter Tryz.func165,Tryz.ntmps165
 have q:=Mf.start h
 go_wp2_with fail
 refine(q.ne' (sz w) (aJ)).lf (dx · 7) ?_
 clear q
 intro w1 q
 have F:=q.f1
 go_wp2_with fail
 refine(q.ne' (sz w1) (nk 7 (t.pos i) nl)).wn (dw · _ (ask)) (fun w' hk hw=>⟨rfl,.inr ((q.ne' (sz w1) (nk 7 (t.pos i) nl)).aR hk (by unfold kg;exact wrt))⟩) ?_
 clear q F
 intro w2 m2 q
 have F:=q.f2
 go_wp2_with fail
 refine q.nn (fun hr=>Ep hr) (fun w' p hk hw=>⟨rfl,.inr (q.aR hk (by unfold kg;exact wrt))⟩) ?_
 clear q F
 intro w3 x3 i3 y3 hl3 m3 q
 have F:=q.f2
 go_wp2_with fail
 refine(q.ne' (sz w3) x3.a).nm (AA · 2 (by decide) (by decide)) (fun w' p hk hw=>⟨rfl,.inr ((q.ne' (sz w3) x3.a).aR hk (by unfold kg;exact wrt))⟩) ?_
 clear q F
 intro w4 s4 i4 hs4 hl4 m4 q
 have F:=q.f3
 go_wp2_with fail
 refine(q.p14 s4).wn (dw · _ (ask)) (fun w' hk hw=>⟨rfl,.inr ((q.p14 s4).aR hk (by unfold kg;exact wrt))⟩) ?_
 clear q F
 intro w5 m5 q
 have F:=q.f3
 have PE:Hid (∀p,Wr (fun n=>gG t n 0) ⟨i4+1,0,0⟩ p→Wr (fun n=>kg t (gG t n 0) (gG t n 3) n) ⟨i,0,0⟩ p):=fun p hw=>(by unfold kg;exact wrt)
 have H3:Hid (2≤i4+1):=by have h2:=hl4.out;show 2≤i4+1;omega
 go_upto_region 6 with fail
 go_cut [] (fun wx=>∃(i6:Nat) (y6:List Nr) (v:Value) (vs:List (List Value)),Hid (i4+1<i6)∧Ev (fun n=>gG t n 0) ⟨i4+1,0,0⟩ (y6,⟨i6,0,0⟩)∧Hid (vs.length=2)∧Mf w rb tb cap t i True wx i6 [(sz w1,ah 7 (t.pos i) 0 0 s4 v),(sz w,aJ)] [] v vs [] [y3,y6])
 case first=>
  go_wp2_with fail
  go_region_law (replace q:=q.drew;go_simp;refine q.nd (fun hr=>hT hr (by have:=hr.lt;have:=q.go trivial;omega)) (fun w' p hk hw=>⟨rfl,.inr (q.aR hk (PE.out _ hw))⟩) ?_;clear q F;intro w6 x6 i6 y6 mq m6 q;have F:=q.f3)
  all_goals
   replace q:=((q.swap.m2 (sz w6)).Uo (sl (sz w6) 2)).pop
   go_wp2_with fail
   go_meet
   exact⟨i6,y6,_,_,mq,m6,(by show List.length _=2;rfl),q.wc (by simp[bC,World.setCell_alloc_past,F,Nat.lt_succ_of_lt])⟩
 case rest=>
  clear F q
  obtain⟨i6,y6,v,vs,mq,m6,qz,q⟩:=hcut
  obtain⟨w6,hw⟩:∃x,x=wc:=⟨_,rfl⟩
  subst hw
  obtain⟨mh,mo,rfl⟩:=q.shape
  have F:=q.f2
  go_wp2_with fail
  refine q.wn (dw · _ (ask)) (fun w' hk hw=>⟨rfl,.inr (q.aR hk (by unfold kg;exact wrt))⟩) ?_
  clear q F
  intro w7 m7 q
  have F:=q.f2
  have HE:Hid (∀r,EvL (fun n=>jJ t (gG t n 0) (gG t n 3) n) [y3,y6] ⟨i6+1,0,0⟩ r→Ev (fun n=>kg t (gG t n 0) (gG t n 3) n) ⟨i,0,0⟩ (nd 7 (t.pos i:Int) 0 0 s4 r.1,r.2)):=fun r hr=>by unfold kg;exact bS
  have HW:Hid (∀p,bZ (fun n=>jJ t (gG t n 0) (gG t n 3) n) [y3,y6] ⟨i6+1,0,0⟩ p→Wr (fun n=>kg t (gG t n 0) (gG t n 3) n) ⟨i,0,0⟩ p):=fun p hp=>by unfold kg;exact wrt
  have H4:Hid (vs.length≤i6+1):=by have h1:=qz.out;have h2:=H3.out;have h3:=mq.out;show vs.length≤i6+1;omega
  go_wp2_with fail
  go_loopg [] (t.len - (i6+1)) (fun g wr=>∃(v:Value) (vs:List (List Value)) (j:Nat) (V:List (List Nr)),g=t.len - j∧Hid (vs.length≤j)∧Mf w rb tb cap t i True wr j [(sz w1,ah 7 (t.pos i) 0 0 s4 v),(sz w,aJ)] [] v vs [] V∧Hid ((∀r,EvL (fun n=>jJ t (gG t n 0) (gG t n 3) n) V ⟨j,0,0⟩ r→EvL (fun n=>jJ t (gG t n 0) (gG t n 3) n) [y3,y6] ⟨i6+1,0,0⟩ r)∧∀p,bZ (fun n=>jJ t (gG t n 0) (gG t n 3) n) V ⟨j,0,0⟩ p→bZ (fun n=>jJ t (gG t n 0) (gG t n 3) n) [y3,y6] ⟨i6+1,0,0⟩ p))
  case atStart=>exact⟨_,vs,i6+1,_,rfl,H4.out,q,⟨fun r h=>h,fun p h=>h⟩⟩
  case round=>
   clear F q
   obtain⟨v,vs,j,V,eD,HL,q,HM⟩:=hrel
   have HG:=@aG _ @eD
   clear eD
   have hjl:=q.st.rd.lt
   have hij:=q.go trivial
   have tV:Hid (vs.length≤6001):=by show vs.length≤6001;have:=HL.out;have:=h.good.few;omega
   obtain⟨Ay,Az,rfl⟩:=q.shape
   have F:=q.f2
   go_wp2_with fail
   refine q.et (cO · _ (ask)) ?_
   clear q F
   intro w8 b8 i8 Jd m8 q
   have F:=q.f2
   cases b8
   ·obtain rfl:j=i8:=(Jd.no rfl).symm
    clear Jd
    have HTL:Hid (∀p,Wr (fun n=>zF t (gG t n 0) (gG t n 3) false n) ⟨j,0,0⟩ p→Wr (fun n=>kg t (gG t n 0) (gG t n 3) n) ⟨i,0,0⟩ p):=fun p hw=>HW.out _ (HM.out.2 _ (bZ.here (by
     unfold zF at hw
     have hw2:=Wr.fst (f:=fun _ y=>ret (true,V++[y])) hw (fun _ _=>Sy.ret)
     simp only[bU,gB] at hw2
     unfold jJ
     exact Wr.snd bT (Wr.snd (Ev.yes rfl m8) (Wr.no rfl hw2))) HS.out))
    go_wp2_with fail
    go_region_law (first|(refine q.as (sz w9) (Nat.le_trans tV.out (by decide)) ?_;clear q F;intro I7 Jr Js q;have F:=q.f2)|(replace q:=q.drew;go_simp;refine q.nd (fun hr=>Gw hT hB hr (by omega) (Gu:=#[.pointer (some ⟨rb,0,none⟩)]) (Gv:=#[]) Qe (fun{w' j} hr'=>by simpa using Qf hr')) (fun w' p hk hw=>⟨rfl,.inr (q.aR hk (HTL.out _ hw))⟩) ?_;clear q F;intro w9 x9 i9 y9 Cr m9 q;have F:=q.f2))
    all_goals
     have MB:Hid (Ev (fun n=>jJ t (gG t n 0) (gG t n 3) n V) ⟨j,0,0⟩ ((true,V++[y9]),⟨i9,0,0⟩)):=by
      show Ev _ _ _
      unfold zF at m9
      have m10:=Ev.ak (f:=fun _ y=>ret (true,V++[y])) m9 Ev.ret'
      simp only[bU,gB] at m10
      unfold jJ
      exact Ev.ak bT (Ev.ak (Ev.yes rfl m8) (Ev.no rfl m10))
     clear m8 m9
     have Cr:=Cr.out
     have hi9:=q.st.rd.lt
     replace q:=q.fE (.slice Jr (vs.length+1) Js)
     go_wp2_with fail
     go_roundg (t.len - i9)
     case measure=>rw[HG.out];omega
     case rel=>exact⟨_,_,i9,_,rfl,(by show(vs++_).length≤i9;have:=HL.out;simp;omega),q,⟨fun r hr=>HM.out.1 r (EvL.on MB.out hr),fun p hp=>HM.out.2 p (bZ.on MB.out hp)⟩⟩
   ·clear Jd
    have M8:=aD m8
    clear m8
    go_wp2_with fail
    go_light
    exact Mf.rt (q.fo 7 (t.pos i) 0 0 s4 (Nat.le_trans tV.out (by decide)) aL hs4) Tryz.results165 1 (HE.out _ (HM.out.1 _ (EvL.stop (by have m8:=M8.out;unfold jJ;exact Ev.ak bT (Ev.ak (Ev.yes rfl m8) (Ev.yes rfl Ev.ret'))))))
end
end Go.Proofs.YtdplogkmkgekdaaGreatDoor.Pj
