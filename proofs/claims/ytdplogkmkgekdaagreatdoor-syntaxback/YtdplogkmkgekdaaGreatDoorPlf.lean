/- The project's parser: items. -/
import Derived.Test.YtdplogkmkgekdaaGreatDoorPlfa
import Derived.Test.YtdplogkmkgekdaaGreatDoorPkb
set_option linter.all false
set_option maxRecDepth 100000
set_option maxHeartbeats 4000000
namespace Go.Proofs.YtdplogkmkgekdaaGreatDoor.Pj
open Go.RowKit
theorem XC (hT:∀N,bH 70 N (fun t n=>gG t n 0)) (hB:∀N,bH 75 N (fun t n=>gG t n 3)) {w:World} {rb tb i:Nat} {cap:Cp} {t:Tk} (h:Rd w rb tb cap t i 0 0) (hI:au t i 0 0 ⟨#[105,109,112,108]⟩=false) (hP:au t i 0 0 ⟨#[112,117,98]⟩=true) (hC:au t (i+1) 0 0 ⟨#[99,111,112,121]⟩=false):
 Calls Tryz.prog 92 #[.pointer (some ⟨rb,0,none⟩)] w (aP w rb tb cap t i True (fun n=>eO t (gG t n 0) (gG t n 3) n)):=by
 have hl:=h.l
 have aL:=h.eP
 have KI:=aD hI
 have KP:=aD hP
 have KC:=aD hC
 have jT:=sN
 have Aq:=eX
 have AJ:=sS
 clear hP hC
 go_enter Tryz.func92,Tryz.ntmps92
 have q:=Mf.start h
 go_wp2_with fail
 refine(q.ne' (sz w) (aJ)).lf (iX · _ (ask)) ?_
 clear q
 intro w1 q
 have F:=q.f1
 go_wp2_with fail
 refine q.lf (jD ·) ?_
 clear q F
 intro w2 q
 have F:=q.f1
 go_wp2_with fail
 refine q.et (cO · _ (ask)) ?_
 clear q F
 intro w3 b3 i3 eu m3 q
 have F:=q.f1
 obtain rfl:b3=true:=eu.jE.trans KP.out
 obtain rfl:=(eu.yes rfl).1
 have KQ:=q.le
 clear eu
 have kc:=KC.out
 go_wp2_with fail
 refine q.lf (iX · _ (ask)) ?_
 clear q F
 intro w4 q
 have F:=q.f1
 have r2:=q.st.rd.r2
 go_wp2_with fail
 refine(q.alloc (.cells #[.slice (some ⟨cap.a1,0,none⟩) 4 4] 72)).nd (fun _=>rH q.st.rd q.st.rd.t1 mg (by decide) rfl l9 (fun e w' ts he hc hr=>vC hT hB hr he hc) (fun hn=>pE q.st.rd hn)) (fun w' p hk hw=>⟨rfl,.inr (Mf.aR (q.alloc _) hk (by rw[show(fun n=>eO t (gG t n 0) (gG t n 3) n)=(fun n=>dX t (gG t n 0) (gG t n 3) n) from funext fun n=>jG];unfold dX;exact Wr.snd bL (Wr.snd aI (Wr.no KI.out (Wr.snd (Ev.ak m3 (Ev.yes rfl Ev.ret')) (Wr.snd aI (Wr.snd aI (Wr.snd aI (Wr.snd (Ev.no (oL KC.out) Ev.ret') (Wr.fst hw (fun _ _=>Sy.ret)))))))))))⟩) ?_
 clear q F r2
 intro w5 x5 i5 y5 hl5 m5 q
 have F:=q.f1
 have wL:=aL
 go_wp2_with fail
 go_light
 refine Mf.rt ((q.ne' (sz w5) (ah x5.k (t.pos i) x5.n 1 x5.s x5.v)).pm (t.pos i) 1 aL) Tryz.results92 1 (by rw[show(fun n=>eO t (gG t n 0) (gG t n 3) n)=(fun n=>dX t (gG t n 0) (gG t n 3) n) from funext fun n=>jG];unfold dX;exact Ev.ak bL (Ev.ak aI (Ev.no KI.out (Ev.ak (Ev.ak m3 (Ev.yes rfl Ev.ret')) (Ev.ak aI (Ev.ak aI (Ev.ak aI (Ev.ak (Ev.no (oL KC.out) Ev.ret') (Ev.ak m5 Ev.ret'))))))))) ?_
 simp[bC,World.setCell_alloc_past,F,Nat.lt_succ_of_lt]
theorem XD (hT:∀N,bH 70 N (fun t n=>gG t n 0)) (hB:∀N,bH 75 N (fun t n=>gG t n 3)) {w:World} {rb tb i:Nat} {cap:Cp} {t:Tk} (h:Rd w rb tb cap t i 0 0) (hI:au t i 0 0 ⟨#[105,109,112,108]⟩=false) (hP:au t i 0 0 ⟨#[112,117,98]⟩=false) (hC:au t i 0 0 ⟨#[99,111,112,121]⟩=false):
 Calls Tryz.prog 92 #[.pointer (some ⟨rb,0,none⟩)] w (aP w rb tb cap t i True (fun n=>eO t (gG t n 0) (gG t n 3) n)):=by
 have hl:=h.l
 have aL:=h.eP
 have KI:=aD hI
 have KP:=aD hP
 have KC:=aD hC
 have jT:=sN
 have Aq:=eX
 have AJ:=sS
 clear hP hC
 go_enter Tryz.func92,Tryz.ntmps92
 have q:=Mf.start h
 go_wp2_with fail
 refine(q.ne' (sz w) (aJ)).lf (iX · _ (ask)) ?_
 clear q
 intro w1 q
 have F:=q.f1
 go_wp2_with fail
 refine q.lf (jD ·) ?_
 clear q F
 intro w2 q
 have F:=q.f1
 go_wp2_with fail
 refine q.et (cO · _ (ask)) ?_
 clear q F
 intro w3 b3 i3 eu m3 q
 have F:=q.f1
 obtain rfl:b3=false:=eu.jE.trans KP.out
 obtain rfl:i=i3:=(eu.no rfl).symm
 have KQ:=q.le
 clear eu
 have kc:=KC.out
 go_wp2_with fail
 refine q.lf (iX · _ (ask)) ?_
 clear q F
 intro w4 q
 have F:=q.f1
 have r2:=q.st.rd.r2
 go_wp2_with fail
 refine(q.alloc (.cells #[.slice (some ⟨cap.a1,0,none⟩) 4 4] 72)).nd (fun _=>rH q.st.rd q.st.rd.t1 mg (by decide) rfl l9 (fun e w' ts he hc hr=>vC hT hB hr he hc) (fun hn=>pE q.st.rd hn)) (fun w' p hk hw=>⟨rfl,.inr (Mf.aR (q.alloc _) hk (by rw[show(fun n=>eO t (gG t n 0) (gG t n 3) n)=(fun n=>dX t (gG t n 0) (gG t n 3) n) from funext fun n=>jG];unfold dX;exact Wr.snd bL (Wr.snd aI (Wr.no KI.out (Wr.snd (Ev.ak m3 (Ev.no rfl Ev.ret')) (Wr.snd aI (Wr.snd aI (Wr.snd aI (Wr.snd (Ev.no (oL KC.out) Ev.ret') (Wr.fst hw (fun _ _=>Sy.ret)))))))))))⟩) ?_
 clear q F r2
 intro w5 x5 i5 y5 hl5 m5 q
 have F:=q.f1
 have wL:=aL
 go_wp2_with fail
 go_light
 refine Mf.rt ((q.ne' (sz w5) (ah x5.k (t.pos i) x5.n 0 x5.s x5.v)).pm (t.pos i) 0 aL) Tryz.results92 1 (by rw[show(fun n=>eO t (gG t n 0) (gG t n 3) n)=(fun n=>dX t (gG t n 0) (gG t n 3) n) from funext fun n=>jG];unfold dX;exact Ev.ak bL (Ev.ak aI (Ev.no KI.out (Ev.ak (Ev.ak m3 (Ev.no rfl Ev.ret')) (Ev.ak aI (Ev.ak aI (Ev.ak aI (Ev.ak (Ev.no (oL KC.out) Ev.ret') (Ev.ak m5 Ev.ret'))))))))) ?_
 simp[bC,World.setCell_alloc_past,F,Nat.lt_succ_of_lt]
theorem XE (hT:∀N,bH 70 N (fun t n=>gG t n 0)) (hB:∀N,bH 75 N (fun t n=>gG t n 3)) {w:World} {rb tb i:Nat} {cap:Cp} {t:Tk} (h:Rd w rb tb cap t i 0 0) (hI:au t i 0 0 ⟨#[105,109,112,108]⟩=false) (hP:au t i 0 0 ⟨#[112,117,98]⟩=false) (hC:au t i 0 0 ⟨#[99,111,112,121]⟩=true) (hS:au t i 0 1 ⟨#[115,116,114,117,99,116]⟩=true):
 Calls Tryz.prog 92 #[.pointer (some ⟨rb,0,none⟩)] w (aP w rb tb cap t i True (fun n=>eO t (gG t n 0) (gG t n 3) n)):=by
 have hl:=h.l
 have aL:=h.eP
 have KI:=aD hI
 have KP:=aD hP
 have KC:=aD hC
 have hl1:=(iY h.good (vZ hC) hC).2
 have tS:((t.text (i+1)).toList==[115,116,114,117,99,116])=true:=qd h.cl hl1 hS
 have KS:=aD hS
 have jT:=sN
 have Aq:=eX
 have AJ:=sS
 clear hP hC hS
 go_enter Tryz.func92,Tryz.ntmps92
 have q:=Mf.start h
 go_wp2_with fail
 refine(q.ne' (sz w) (aJ)).lf (iX · _ (ask)) ?_
 clear q
 intro w1 q
 have F:=q.f1
 go_wp2_with fail
 refine q.lf (jD ·) ?_
 clear q F
 intro w2 q
 have F:=q.f1
 go_wp2_with fail
 refine q.et (cO · _ (ask)) ?_
 clear q F
 intro w3 b3 i3 eu m3 q
 have F:=q.f1
 obtain rfl:b3=false:=eu.jE.trans KP.out
 obtain rfl:i=i3:=(eu.no rfl).symm
 have KQ:=q.le
 clear eu
 have kc:=KC.out
 go_wp2_with fail
 refine q.lf (iX · _ (ask)) ?_
 clear q F
 intro w4 q
 have F:=q.f1
 go_wp2_with fail
 refine q.lf (fun hr=>kS hr hl1) ?_
 clear q F
 intro w5 q
 have F:=q.f1
 go_wp2_with fail
 refine q.yw hl1 ?_
 clear q F
 intro w6 q
 have F:=q.f1
 have r2:=q.st.rd.r2
 go_wp2_with fail
 refine(q.alloc (.cells #[.slice (some ⟨cap.a1,0,none⟩) 4 4] 72)).nd (fun _=>rH q.st.rd q.st.rd.t1 mg (by decide) rfl l9 (fun e w' ts he hc hr=>vC hT hB hr he hc) (fun hn=>pE q.st.rd hn)) (fun w' p hk hw=>⟨rfl,.inr (Mf.aR (q.alloc _) hk (by rw[show(fun n=>eO t (gG t n 0) (gG t n 3) n)=(fun n=>dX t (gG t n 0) (gG t n 3) n) from funext fun n=>jG];unfold dX;exact Wr.snd bL (Wr.snd aI (Wr.no KI.out (Wr.snd (Ev.ak m3 (Ev.no rfl Ev.ret')) (Wr.snd aI (Wr.snd aI (Wr.snd aI (Wr.snd (Ev.yes (dR KC.out (mW KS.out)) (Ev.seq iJ Ev.ret')) (Wr.fst hw (fun _ _=>Sy.ret)))))))))))⟩) ?_
 clear q F r2
 intro w7 x5 i5 y5 hl5 m5 q
 have F:=q.f1
 have wL:=aL
 go_wp2_with fail
 go_light
 refine Mf.rt ((q.ne' (sz w7) (ah x5.k (t.pos i) x5.n 2 x5.s x5.v)).pm (t.pos i) 2 aL) Tryz.results92 1 (by rw[show(fun n=>eO t (gG t n 0) (gG t n 3) n)=(fun n=>dX t (gG t n 0) (gG t n 3) n) from funext fun n=>jG];unfold dX;exact Ev.ak bL (Ev.ak aI (Ev.no KI.out (Ev.ak (Ev.ak m3 (Ev.no rfl Ev.ret')) (Ev.ak aI (Ev.ak aI (Ev.ak aI (Ev.ak (Ev.yes (dR KC.out (mW KS.out)) (Ev.seq iJ Ev.ret')) (Ev.ak m5 Ev.ret'))))))))) ?_
 simp[bC,World.setCell_alloc_past,F,Nat.lt_succ_of_lt]
theorem XF (hT:∀N,bH 70 N (fun t n=>gG t n 0)) (hB:∀N,bH 75 N (fun t n=>gG t n 3)) {w:World} {rb tb i:Nat} {cap:Cp} {t:Tk} (h:Rd w rb tb cap t i 0 0) (hI:au t i 0 0 ⟨#[105,109,112,108]⟩=false) (hP:au t i 0 0 ⟨#[112,117,98]⟩=true) (hC:au t (i+1) 0 0 ⟨#[99,111,112,121]⟩=true) (hS:au t (i+1) 0 1 ⟨#[115,116,114,117,99,116]⟩=true):
 Calls Tryz.prog 92 #[.pointer (some ⟨rb,0,none⟩)] w (aP w rb tb cap t i True (fun n=>eO t (gG t n 0) (gG t n 3) n)):=by
 have hl:=h.l
 have aL:=h.eP
 have KI:=aD hI
 have KP:=aD hP
 have KC:=aD hC
 have hl1:=(iY h.good (vZ hC) hC).2
 have tS:((t.text (i+1+1)).toList==[115,116,114,117,99,116])=true:=qd h.cl hl1 hS
 have KS:=aD hS
 have jT:=sN
 have Aq:=eX
 have AJ:=sS
 clear hP hC hS
 go_enter Tryz.func92,Tryz.ntmps92
 have q:=Mf.start h
 go_wp2_with fail
 refine(q.ne' (sz w) (aJ)).lf (iX · _ (ask)) ?_
 clear q
 intro w1 q
 have F:=q.f1
 go_wp2_with fail
 refine q.lf (jD ·) ?_
 clear q F
 intro w2 q
 have F:=q.f1
 go_wp2_with fail
 refine q.et (cO · _ (ask)) ?_
 clear q F
 intro w3 b3 i3 eu m3 q
 have F:=q.f1
 obtain rfl:b3=true:=eu.jE.trans KP.out
 obtain rfl:=(eu.yes rfl).1
 have KQ:=q.le
 clear eu
 have kc:=KC.out
 go_wp2_with fail
 refine q.lf (iX · _ (ask)) ?_
 clear q F
 intro w4 q
 have F:=q.f1
 go_wp2_with fail
 refine q.lf (fun hr=>kS hr hl1) ?_
 clear q F
 intro w5 q
 have F:=q.f1
 go_wp2_with fail
 refine q.yw hl1 ?_
 clear q F
 intro w6 q
 have F:=q.f1
 have r2:=q.st.rd.r2
 go_wp2_with fail
 refine(q.alloc (.cells #[.slice (some ⟨cap.a1,0,none⟩) 4 4] 72)).nd (fun _=>rH q.st.rd q.st.rd.t1 mg (by decide) rfl l9 (fun e w' ts he hc hr=>vC hT hB hr he hc) (fun hn=>pE q.st.rd hn)) (fun w' p hk hw=>⟨rfl,.inr (Mf.aR (q.alloc _) hk (by rw[show(fun n=>eO t (gG t n 0) (gG t n 3) n)=(fun n=>dX t (gG t n 0) (gG t n 3) n) from funext fun n=>jG];unfold dX;exact Wr.snd bL (Wr.snd aI (Wr.no KI.out (Wr.snd (Ev.ak m3 (Ev.yes rfl Ev.ret')) (Wr.snd aI (Wr.snd aI (Wr.snd aI (Wr.snd (Ev.yes (dR KC.out (mW KS.out)) (Ev.seq iJ Ev.ret')) (Wr.fst hw (fun _ _=>Sy.ret)))))))))))⟩) ?_
 clear q F r2
 intro w7 x5 i5 y5 hl5 m5 q
 have F:=q.f1
 have wL:=aL
 go_wp2_with fail
 go_light
 refine Mf.rt ((q.ne' (sz w7) (ah x5.k (t.pos i) x5.n 3 x5.s x5.v)).pm (t.pos i) 3 aL) Tryz.results92 1 (by rw[show(fun n=>eO t (gG t n 0) (gG t n 3) n)=(fun n=>dX t (gG t n 0) (gG t n 3) n) from funext fun n=>jG];unfold dX;exact Ev.ak bL (Ev.ak aI (Ev.no KI.out (Ev.ak (Ev.ak m3 (Ev.yes rfl Ev.ret')) (Ev.ak aI (Ev.ak aI (Ev.ak aI (Ev.ak (Ev.yes (dR KC.out (mW KS.out)) (Ev.seq iJ Ev.ret')) (Ev.ak m5 Ev.ret'))))))))) ?_
 simp[bC,World.setCell_alloc_past,F,Nat.lt_succ_of_lt]
theorem XG (hT:∀N,bH 70 N (fun t n=>gG t n 0)) (hB:∀N,bH 75 N (fun t n=>gG t n 3)) {w:World} {rb tb i:Nat} {cap:Cp} {t:Tk} (h:Rd w rb tb cap t i 0 0) (hI:au t i 0 0 ⟨#[105,109,112,108]⟩=false) (hP:au t i 0 0 ⟨#[112,117,98]⟩=false) (hC:au t i 0 0 ⟨#[99,111,112,121]⟩=true) (hS:au t i 0 1 ⟨#[115,116,114,117,99,116]⟩=false) (hE:au t i 0 1 ⟨#[101,110,117,109]⟩=false):
 Calls Tryz.prog 92 #[.pointer (some ⟨rb,0,none⟩)] w (aP w rb tb cap t i True (fun n=>eO t (gG t n 0) (gG t n 3) n)):=by
 have hl:=h.l
 have aL:=h.eP
 have KI:=aD hI
 have KP:=aD hP
 have KC:=aD hC
 have hl1:=(iY h.good (vZ hC) hC).2
 have tS:((t.text (i+1)).toList==[115,116,114,117,99,116])=false:=qd h.cl hl1 hS
 have KS:=aD hS
 have tE:((t.text (i+1)).toList==[101,110,117,109])=false:=qd h.cl hl1 hE
 have KE:=aD hE
 have jT:=sN
 have Aq:=eX
 have AJ:=sS
 clear hP hC hS hE
 go_enter Tryz.func92,Tryz.ntmps92
 have q:=Mf.start h
 go_wp2_with fail
 refine(q.ne' (sz w) (aJ)).lf (iX · _ (ask)) ?_
 clear q
 intro w1 q
 have F:=q.f1
 go_wp2_with fail
 refine q.lf (jD ·) ?_
 clear q F
 intro w2 q
 have F:=q.f1
 go_wp2_with fail
 refine q.et (cO · _ (ask)) ?_
 clear q F
 intro w3 b3 i3 eu m3 q
 have F:=q.f1
 obtain rfl:b3=false:=eu.jE.trans KP.out
 obtain rfl:i=i3:=(eu.no rfl).symm
 have KQ:=q.le
 clear eu
 have kc:=KC.out
 go_wp2_with fail
 refine q.lf (iX · _ (ask)) ?_
 clear q F
 intro w4 q
 have F:=q.f1
 go_wp2_with fail
 refine q.lf (fun hr=>kS hr hl1) ?_
 clear q F
 intro w5 q
 have F:=q.f1
 go_wp2_with fail
 refine q.lf (fun hr=>kS hr hl1) ?_
 clear q F
 intro w6 q
 have F:=q.f1
 have r2:=q.st.rd.r2
 go_wp2_with fail
 refine(q.alloc (.cells #[.slice (some ⟨cap.a1,0,none⟩) 4 4] 72)).nd (fun _=>rH q.st.rd q.st.rd.t1 mg (by decide) rfl l9 (fun e w' ts he hc hr=>vC hT hB hr he hc) (fun hn=>pE q.st.rd hn)) (fun w' p hk hw=>⟨rfl,.inr (Mf.aR (q.alloc _) hk (by rw[show(fun n=>eO t (gG t n 0) (gG t n 3) n)=(fun n=>dX t (gG t n 0) (gG t n 3) n) from funext fun n=>jG];unfold dX;exact Wr.snd bL (Wr.snd aI (Wr.no KI.out (Wr.snd (Ev.ak m3 (Ev.no rfl Ev.ret')) (Wr.snd aI (Wr.snd aI (Wr.snd aI (Wr.snd (Ev.no (jf (jh KS.out KE.out)) Ev.ret') (Wr.fst hw (fun _ _=>Sy.ret)))))))))))⟩) ?_
 clear q F r2
 intro w7 x5 i5 y5 hl5 m5 q
 have F:=q.f1
 have wL:=aL
 go_wp2_with fail
 go_light
 refine Mf.rt ((q.ne' (sz w7) (ah x5.k (t.pos i) x5.n 0 x5.s x5.v)).pm (t.pos i) 0 aL) Tryz.results92 1 (by rw[show(fun n=>eO t (gG t n 0) (gG t n 3) n)=(fun n=>dX t (gG t n 0) (gG t n 3) n) from funext fun n=>jG];unfold dX;exact Ev.ak bL (Ev.ak aI (Ev.no KI.out (Ev.ak (Ev.ak m3 (Ev.no rfl Ev.ret')) (Ev.ak aI (Ev.ak aI (Ev.ak aI (Ev.ak (Ev.no (jf (jh KS.out KE.out)) Ev.ret') (Ev.ak m5 Ev.ret'))))))))) ?_
 simp[bC,World.setCell_alloc_past,F,Nat.lt_succ_of_lt]
theorem XH (hT:∀N,bH 70 N (fun t n=>gG t n 0)) (hB:∀N,bH 75 N (fun t n=>gG t n 3)) {w:World} {rb tb i:Nat} {cap:Cp} {t:Tk} (h:Rd w rb tb cap t i 0 0) (hI:au t i 0 0 ⟨#[105,109,112,108]⟩=false) (hP:au t i 0 0 ⟨#[112,117,98]⟩=true) (hC:au t (i+1) 0 0 ⟨#[99,111,112,121]⟩=true) (hS:au t (i+1) 0 1 ⟨#[115,116,114,117,99,116]⟩=false) (hE:au t (i+1) 0 1 ⟨#[101,110,117,109]⟩=false):
 Calls Tryz.prog 92 #[.pointer (some ⟨rb,0,none⟩)] w (aP w rb tb cap t i True (fun n=>eO t (gG t n 0) (gG t n 3) n)):=by
 have hl:=h.l
 have aL:=h.eP
 have KI:=aD hI
 have KP:=aD hP
 have KC:=aD hC
 have hl1:=(iY h.good (vZ hC) hC).2
 have tS:((t.text (i+1+1)).toList==[115,116,114,117,99,116])=false:=qd h.cl hl1 hS
 have KS:=aD hS
 have tE:((t.text (i+1+1)).toList==[101,110,117,109])=false:=qd h.cl hl1 hE
 have KE:=aD hE
 have jT:=sN
 have Aq:=eX
 have AJ:=sS
 clear hP hC hS hE
 go_enter Tryz.func92,Tryz.ntmps92
 have q:=Mf.start h
 go_wp2_with fail
 refine(q.ne' (sz w) (aJ)).lf (iX · _ (ask)) ?_
 clear q
 intro w1 q
 have F:=q.f1
 go_wp2_with fail
 refine q.lf (jD ·) ?_
 clear q F
 intro w2 q
 have F:=q.f1
 go_wp2_with fail
 refine q.et (cO · _ (ask)) ?_
 clear q F
 intro w3 b3 i3 eu m3 q
 have F:=q.f1
 obtain rfl:b3=true:=eu.jE.trans KP.out
 obtain rfl:=(eu.yes rfl).1
 have KQ:=q.le
 clear eu
 have kc:=KC.out
 go_wp2_with fail
 refine q.lf (iX · _ (ask)) ?_
 clear q F
 intro w4 q
 have F:=q.f1
 go_wp2_with fail
 refine q.lf (fun hr=>kS hr hl1) ?_
 clear q F
 intro w5 q
 have F:=q.f1
 go_wp2_with fail
 refine q.lf (fun hr=>kS hr hl1) ?_
 clear q F
 intro w6 q
 have F:=q.f1
 have r2:=q.st.rd.r2
 go_wp2_with fail
 refine(q.alloc (.cells #[.slice (some ⟨cap.a1,0,none⟩) 4 4] 72)).nd (fun _=>rH q.st.rd q.st.rd.t1 mg (by decide) rfl l9 (fun e w' ts he hc hr=>vC hT hB hr he hc) (fun hn=>pE q.st.rd hn)) (fun w' p hk hw=>⟨rfl,.inr (Mf.aR (q.alloc _) hk (by rw[show(fun n=>eO t (gG t n 0) (gG t n 3) n)=(fun n=>dX t (gG t n 0) (gG t n 3) n) from funext fun n=>jG];unfold dX;exact Wr.snd bL (Wr.snd aI (Wr.no KI.out (Wr.snd (Ev.ak m3 (Ev.yes rfl Ev.ret')) (Wr.snd aI (Wr.snd aI (Wr.snd aI (Wr.snd (Ev.no (jf (jh KS.out KE.out)) Ev.ret') (Wr.fst hw (fun _ _=>Sy.ret)))))))))))⟩) ?_
 clear q F r2
 intro w7 x5 i5 y5 hl5 m5 q
 have F:=q.f1
 have wL:=aL
 go_wp2_with fail
 go_light
 refine Mf.rt ((q.ne' (sz w7) (ah x5.k (t.pos i) x5.n 1 x5.s x5.v)).pm (t.pos i) 1 aL) Tryz.results92 1 (by rw[show(fun n=>eO t (gG t n 0) (gG t n 3) n)=(fun n=>dX t (gG t n 0) (gG t n 3) n) from funext fun n=>jG];unfold dX;exact Ev.ak bL (Ev.ak aI (Ev.no KI.out (Ev.ak (Ev.ak m3 (Ev.yes rfl Ev.ret')) (Ev.ak aI (Ev.ak aI (Ev.ak aI (Ev.ak (Ev.no (jf (jh KS.out KE.out)) Ev.ret') (Ev.ak m5 Ev.ret'))))))))) ?_
 simp[bC,World.setCell_alloc_past,F,Nat.lt_succ_of_lt]
theorem XI (hT:∀N,bH 70 N (fun t n=>gG t n 0)) (hB:∀N,bH 75 N (fun t n=>gG t n 3)) {w:World} {rb tb i:Nat} {cap:Cp} {t:Tk} (h:Rd w rb tb cap t i 0 0) (hI:au t i 0 0 ⟨#[105,109,112,108]⟩=false) (hP:au t i 0 0 ⟨#[112,117,98]⟩=false) (hC:au t i 0 0 ⟨#[99,111,112,121]⟩=true) (hS:au t i 0 1 ⟨#[115,116,114,117,99,116]⟩=false) (hE:au t i 0 1 ⟨#[101,110,117,109]⟩=true):
 Calls Tryz.prog 92 #[.pointer (some ⟨rb,0,none⟩)] w (aP w rb tb cap t i True (fun n=>eO t (gG t n 0) (gG t n 3) n)):=by
 have hl:=h.l
 have aL:=h.eP
 have KI:=aD hI
 have KP:=aD hP
 have KC:=aD hC
 have hl1:=(iY h.good (vZ hC) hC).2
 have tS:((t.text (i+1)).toList==[115,116,114,117,99,116])=false:=qd h.cl hl1 hS
 have KS:=aD hS
 have tE:((t.text (i+1)).toList==[101,110,117,109])=true:=qd h.cl hl1 hE
 have KE:=aD hE
 have jT:=sN
 have Aq:=eX
 have AJ:=sS
 clear hP hC hS hE
 go_enter Tryz.func92,Tryz.ntmps92
 have q:=Mf.start h
 go_wp2_with fail
 refine(q.ne' (sz w) (aJ)).lf (iX · _ (ask)) ?_
 clear q
 intro w1 q
 have F:=q.f1
 go_wp2_with fail
 refine q.lf (jD ·) ?_
 clear q F
 intro w2 q
 have F:=q.f1
 go_wp2_with fail
 refine q.et (cO · _ (ask)) ?_
 clear q F
 intro w3 b3 i3 eu m3 q
 have F:=q.f1
 obtain rfl:b3=false:=eu.jE.trans KP.out
 obtain rfl:i=i3:=(eu.no rfl).symm
 have KQ:=q.le
 clear eu
 have kc:=KC.out
 go_wp2_with fail
 refine q.lf (iX · _ (ask)) ?_
 clear q F
 intro w4 q
 have F:=q.f1
 go_wp2_with fail
 refine q.lf (fun hr=>kS hr hl1) ?_
 clear q F
 intro w5 q
 have F:=q.f1
 go_wp2_with fail
 refine q.lf (fun hr=>kS hr hl1) ?_
 clear q F
 intro w6 q
 have F:=q.f1
 go_wp2_with fail
 refine q.yw hl1 ?_
 clear q F
 intro w7 q
 have F:=q.f1
 have r2:=q.st.rd.r2
 go_wp2_with fail
 refine(q.alloc (.cells #[.slice (some ⟨cap.a1,0,none⟩) 4 4] 72)).nd (fun _=>rH q.st.rd q.st.rd.t1 mg (by decide) rfl l9 (fun e w' ts he hc hr=>vC hT hB hr he hc) (fun hn=>pE q.st.rd hn)) (fun w' p hk hw=>⟨rfl,.inr (Mf.aR (q.alloc _) hk (by rw[show(fun n=>eO t (gG t n 0) (gG t n 3) n)=(fun n=>dX t (gG t n 0) (gG t n 3) n) from funext fun n=>jG];unfold dX;exact Wr.snd bL (Wr.snd aI (Wr.no KI.out (Wr.snd (Ev.ak m3 (Ev.no rfl Ev.ret')) (Wr.snd aI (Wr.snd aI (Wr.snd aI (Wr.snd (Ev.yes (dR KC.out (dZ KE.out)) (Ev.seq iJ Ev.ret')) (Wr.fst hw (fun _ _=>Sy.ret)))))))))))⟩) ?_
 clear q F r2
 intro w8 x5 i5 y5 hl5 m5 q
 have F:=q.f1
 have wL:=aL
 go_wp2_with fail
 go_light
 refine Mf.rt ((q.ne' (sz w8) (ah x5.k (t.pos i) x5.n 2 x5.s x5.v)).pm (t.pos i) 2 aL) Tryz.results92 1 (by rw[show(fun n=>eO t (gG t n 0) (gG t n 3) n)=(fun n=>dX t (gG t n 0) (gG t n 3) n) from funext fun n=>jG];unfold dX;exact Ev.ak bL (Ev.ak aI (Ev.no KI.out (Ev.ak (Ev.ak m3 (Ev.no rfl Ev.ret')) (Ev.ak aI (Ev.ak aI (Ev.ak aI (Ev.ak (Ev.yes (dR KC.out (dZ KE.out)) (Ev.seq iJ Ev.ret')) (Ev.ak m5 Ev.ret'))))))))) ?_
 simp[bC,World.setCell_alloc_past,F,Nat.lt_succ_of_lt]
theorem XJ (hT:∀N,bH 70 N (fun t n=>gG t n 0)) (hB:∀N,bH 75 N (fun t n=>gG t n 3)) {w:World} {rb tb i:Nat} {cap:Cp} {t:Tk} (h:Rd w rb tb cap t i 0 0) (hI:au t i 0 0 ⟨#[105,109,112,108]⟩=false) (hP:au t i 0 0 ⟨#[112,117,98]⟩=true) (hC:au t (i+1) 0 0 ⟨#[99,111,112,121]⟩=true) (hS:au t (i+1) 0 1 ⟨#[115,116,114,117,99,116]⟩=false) (hE:au t (i+1) 0 1 ⟨#[101,110,117,109]⟩=true):
 Calls Tryz.prog 92 #[.pointer (some ⟨rb,0,none⟩)] w (aP w rb tb cap t i True (fun n=>eO t (gG t n 0) (gG t n 3) n)):=by
 have hl:=h.l
 have aL:=h.eP
 have KI:=aD hI
 have KP:=aD hP
 have KC:=aD hC
 have hl1:=(iY h.good (vZ hC) hC).2
 have tS:((t.text (i+1+1)).toList==[115,116,114,117,99,116])=false:=qd h.cl hl1 hS
 have KS:=aD hS
 have tE:((t.text (i+1+1)).toList==[101,110,117,109])=true:=qd h.cl hl1 hE
 have KE:=aD hE
 have jT:=sN
 have Aq:=eX
 have AJ:=sS
 clear hP hC hS hE
 go_enter Tryz.func92,Tryz.ntmps92
 have q:=Mf.start h
 go_wp2_with fail
 refine(q.ne' (sz w) (aJ)).lf (iX · _ (ask)) ?_
 clear q
 intro w1 q
 have F:=q.f1
 go_wp2_with fail
 refine q.lf (jD ·) ?_
 clear q F
 intro w2 q
 have F:=q.f1
 go_wp2_with fail
 refine q.et (cO · _ (ask)) ?_
 clear q F
 intro w3 b3 i3 eu m3 q
 have F:=q.f1
 obtain rfl:b3=true:=eu.jE.trans KP.out
 obtain rfl:=(eu.yes rfl).1
 have KQ:=q.le
 clear eu
 have kc:=KC.out
 go_wp2_with fail
 refine q.lf (iX · _ (ask)) ?_
 clear q F
 intro w4 q
 have F:=q.f1
 go_wp2_with fail
 refine q.lf (fun hr=>kS hr hl1) ?_
 clear q F
 intro w5 q
 have F:=q.f1
 go_wp2_with fail
 refine q.lf (fun hr=>kS hr hl1) ?_
 clear q F
 intro w6 q
 have F:=q.f1
 go_wp2_with fail
 refine q.yw hl1 ?_
 clear q F
 intro w7 q
 have F:=q.f1
 have r2:=q.st.rd.r2
 go_wp2_with fail
 refine(q.alloc (.cells #[.slice (some ⟨cap.a1,0,none⟩) 4 4] 72)).nd (fun _=>rH q.st.rd q.st.rd.t1 mg (by decide) rfl l9 (fun e w' ts he hc hr=>vC hT hB hr he hc) (fun hn=>pE q.st.rd hn)) (fun w' p hk hw=>⟨rfl,.inr (Mf.aR (q.alloc _) hk (by rw[show(fun n=>eO t (gG t n 0) (gG t n 3) n)=(fun n=>dX t (gG t n 0) (gG t n 3) n) from funext fun n=>jG];unfold dX;exact Wr.snd bL (Wr.snd aI (Wr.no KI.out (Wr.snd (Ev.ak m3 (Ev.yes rfl Ev.ret')) (Wr.snd aI (Wr.snd aI (Wr.snd aI (Wr.snd (Ev.yes (dR KC.out (dZ KE.out)) (Ev.seq iJ Ev.ret')) (Wr.fst hw (fun _ _=>Sy.ret)))))))))))⟩) ?_
 clear q F r2
 intro w8 x5 i5 y5 hl5 m5 q
 have F:=q.f1
 have wL:=aL
 go_wp2_with fail
 go_light
 refine Mf.rt ((q.ne' (sz w8) (ah x5.k (t.pos i) x5.n 3 x5.s x5.v)).pm (t.pos i) 3 aL) Tryz.results92 1 (by rw[show(fun n=>eO t (gG t n 0) (gG t n 3) n)=(fun n=>dX t (gG t n 0) (gG t n 3) n) from funext fun n=>jG];unfold dX;exact Ev.ak bL (Ev.ak aI (Ev.no KI.out (Ev.ak (Ev.ak m3 (Ev.yes rfl Ev.ret')) (Ev.ak aI (Ev.ak aI (Ev.ak aI (Ev.ak (Ev.yes (dR KC.out (dZ KE.out)) (Ev.seq iJ Ev.ret')) (Ev.ak m5 Ev.ret'))))))))) ?_
 simp[bC,World.setCell_alloc_past,F,Nat.lt_succ_of_lt]
section
variable {w:World} {rb tb i:Nat} {cap:Cp} {t:Tk}
theorem Qq (hT:∀N,bH 70 N (fun t n=>gG t n 0)) (hB:∀N,bH 75 N (fun t n=>gG t n 3)) {w:World} {rb tb i:Nat} {cap:Cp} {t:Tk} (h:Rd w rb tb cap t i 0 0) (hb:au t i 0 0 ⟨#[105,109,112,108]⟩=true):
 Calls Tryz.prog 92 #[.pointer (some ⟨rb,0,none⟩)] w (aP w rb tb cap t i True (fun n=>eO t (gG t n 0) (gG t n 3) n)):=by
 have hl:=h.l
 have aL:=h.eP
 have HB:=aD hb
 have hbb:=hb
 clear hb
 go_enter Tryz.func92,Tryz.ntmps92
 have q:=Mf.start h
 go_wp2_with fail
 refine(q.ne' (sz w) (aJ)).lf (iX · _ (ask)) ?_
 clear q
 intro w1 q
 have F:=q.f1
 go_wp2_with fail
 refine q.nd (fun hr=>adZ (hT t.len) (hB t.len) hr (by omega)) (fun w' p hk hw=>⟨rfl,.inr (q.aR hk (by have hbb:=HB.out;rw[show(fun n=>eO t (gG t n 0) (gG t n 3) n)=(fun n=>dX t (gG t n 0) (gG t n 3) n) from funext fun n=>jG];unfold dX;exact wrt))⟩) ?_
 clear q F
 intro w2 x5 i5 y5 hl5 m5 q
 have F:=q.f1
 go_wp2_with fail
 go_light
 exact Mf.rt (q) Tryz.results92 0 (by have hbb:=HB.out;rw[show(fun n=>eO t (gG t n 0) (gG t n 3) n)=(fun n=>dX t (gG t n 0) (gG t n 3) n) from funext fun n=>jG];unfold dX;exact bS)
theorem ad2 (hT:∀N,bH 70 N (fun t n=>gG t n 0)) (hB:∀N,bH 75 N (fun t n=>gG t n 3)) {w:World} {rb tb i:Nat} {cap:Cp} {t:Tk} (h:Rd w rb tb cap t i 0 0):Calls Tryz.prog 92 #[.pointer (some ⟨rb,0,none⟩)] w (aP w rb tb cap t i True (fun n=>eO t (gG t n 0) (gG t n 3) n)):=by
 cases hI:au t i 0 0 ⟨#[105,109,112,108]⟩
 ·cases hP:au t i 0 0 ⟨#[112,117,98]⟩
  ·cases hC:au t i 0 0 ⟨#[99,111,112,121]⟩
   ·exact XD hT hB h hI hP hC
   ·cases hS:au t i 0 1 ⟨#[115,116,114,117,99,116]⟩
    ·cases hE:au t i 0 1 ⟨#[101,110,117,109]⟩
     ·exact XG hT hB h hI hP hC hS hE
     ·exact XI hT hB h hI hP hC hS hE
    ·exact XE hT hB h hI hP hC hS
  ·cases hC:au t (i+1) 0 0 ⟨#[99,111,112,121]⟩
   ·exact XC hT hB h hI hP hC
   ·cases hS:au t (i+1) 0 1 ⟨#[115,116,114,117,99,116]⟩
    ·cases hE:au t (i+1) 0 1 ⟨#[101,110,117,109]⟩
     ·exact XH hT hB h hI hP hC hS hE
     ·exact XJ hT hB h hI hP hC hS hE
    ·exact XF hT hB h hI hP hC hS
 ·exact Qq hT hB h hI
end
end Go.Proofs.YtdplogkmkgekdaaGreatDoor.Pj
