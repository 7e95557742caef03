/- What the project's Parse catches. -/
import Derived.Test.YtdplogkmkgekdaaGreatDoorPkzh
import Derived.Test.YtdplogkmkgekdaaGreatDoorFParseA
import Derived.Test.YtdplogkmkgekdaaGreatDoorPkd
import Derived.Recover
set_option linter.all false
set_option maxRecDepth 100000
set_option maxHeartbeats 4000000
namespace Go.Proofs.YtdplogkmkgekdaaGreatDoor.Pj
open Go.RowKit
theorem boundX_life {t:Tk} {n:Nat}:gBoundX t true n=gLife t:=by
 funext s
 rfl
theorem lifeName_ev {t:Tk} {i:Nat} (hb:kindB t i 0 0 4=true):Ev (fun _=>gLifeName t) ⟨i,0,0⟩ (t.text i,⟨i+1,0,0⟩):=by
 have hl:Ev (fun _=>gLife t) ⟨i,0,0⟩ (nd 19 (t.pos i) 0 0 (t.text i) [],⟨i+1,0,0⟩):=by
  unfold gLife
  exact evt
 exact Ev.bnd' hl Ev.ret'
theorem lifeName_wr {t:Tk} {i:Nat} (hb:kindB t i 0 0 4=false):Wr (fun _=>gLifeName t) ⟨i,0,0⟩ (t.pos i):=by
 have hl:Wr (fun _=>gLife t) ⟨i,0,0⟩ (t.pos i):=by
  unfold gLife
  exact wrt
 exact Wr.fst hl (fun _ _=>Sy.ret)
def gBoundLife (t:Tk) (fu:Nat):GP (List Nr):=bnd (gAt t) (fun q=>bnd (gLifeName t) (fun s=>bnd (gBounds t true fu) (fun ks=>ret (nd 10 q 0 0 s ks))))
theorem boundLifeGenP {w:World} {rb tb i:Nat} {cap:Cp} {t:Tk} (h:Rd w rb tb cap t i 0 0):
 Calls Tryz.prog 193 #[.pointer (some ⟨rb,0,none⟩)] w (NodeP w rb tb cap t i True (fun n=>gBoundLife t n)):=by
 have hl:=h.l
 have hposI:(0:Int)≤(t.pos i:Int)∧(t.pos i:Int)≤7000:=by have:=h.good.posb i;omega
 have hs1:=h.good.textb i
 go_enter Tryz.func193,Tryz.ntmps193
 have q:=Mf.start h
 go_wp2_with fail
 refine(lifeGenP (q.ne' (sz w) (zeroC)).st.rd).mono ?_
 rintro e w1 (⟨rfl,hx1,hb1⟩|⟨rfl,hk,hb1⟩)
 rotate_left
 ·have hw:=lifeName_wr hb1
  exact⟨rfl,.inr ((q.ne' (sz w) (zeroC)).thr hk (by unfold gBoundLife;exact wrt))⟩
 have m1:=lifeName_ev hb1
 replace q:=(q.ne' (sz w) (zeroC)).nxm hx1
 clear hx1
 have F:=q.f1
 go_wp2_with fail
 refine(q.ne' (sz w1) (nodeC 10 (t.pos i) 0 0 (t.text i) nl)).ln (fun hr=>boundsP (lives:=true) hr (k:=195) (fi:=#[.pointer (some ⟨rb,0,none⟩)]) (ca:=#[]) ein195 (fun{w' j} hr'=>by simpa[boundX_life] using lifeP hr')) (fun w' p hk hw=>⟨rfl,.inr ((q.ne' (sz w1) (nodeC 10 (t.pos i) 0 0 (t.text i) nl)).thr hk (by unfold gBoundLife;exact wrt))⟩) ?_
 clear q F
 intro w2 ao2 cp2 vs2 i2 V2 hl2 m2 q
 have F:=q.f2
 have hl3:vs2.length≤6001:=by have:=hl2.out.2;have:=q.st.rd.lt;have:=h.good.few;omega
 go_wp2_with fail
 go_light
 exact Mf.rt ((q.p05 (.slice ao2 vs2.length cp2)).fo 10 (t.pos i) 0 0 (t.text i) (by omega) hposI (by omega)) Tryz.results193 1 (by unfold gBoundLife;exact evt)
end Go.Proofs.YtdplogkmkgekdaaGreatDoor.Pj
namespace Go.Proofs.YtdplogkmkgekdaaGreatDoor.Pj
open Go.RowKit
theorem noGensP {w:World} {rb tb i:Nat} {cap:Cp} {t:Tk} (h:Rd w rb tb cap t i 0 0):
 Calls Tryz.prog 141 #[.pointer (some ⟨rb,0,none⟩)] w (NodeP w rb tb cap t i False (fun _=>bnd (gAt t) (fun q=>ret (nd 9 q 0 0 E0 [])))):=by
 have hl:=h.l
 have hposI:(0:Int)≤(t.pos i:Int)∧(t.pos i:Int)≤7000:=by have:=h.good.posb i;omega
 go_enter Tryz.func141,Tryz.ntmps141
 have q:=Mf.start h
 go_wp2_with fail
 refine(q.ne' (sz w) (zeroC)).lf (nodeP · 9) ?_
 clear q
 intro w1 q
 have F:=q.f1
 go_wp2_with fail
 go_light
 exact Mf.rt (q.lk 9 (t.pos i) 0 0 ⟨#[]⟩ hposI) Tryz.results141 0 (by exact evt)
end Go.Proofs.YtdplogkmkgekdaaGreatDoor.Pj
namespace Go.Proofs.YtdplogkmkgekdaaGreatDoor.Pj
open Go.RowKit
theorem app0a {P:Program} {f:Nat} {a:Value} {w:World} {Q:Ending→World→Prop} (h:Calls P f #[a] w Q):Calls P f (#[a]++#[]) w Q:=by simpa using h
theorem fieldNameP {w W:World} {rb tb i j:Nat} {cap:Cp} {t:Tk} {g:Prop} {L:List (Nat × Array Value)} {T:List (List Value)} {kv:Value} {vs:List (List Value)} {X V:List (List Nr)} {b:Nat} {ki po n m:Int} {na:ByteArray} {v:Value} {Q:Ending→World→Prop} (q:Mf w rb tb cap t i g W j ((b,nodeC ki po n m na v)::L) T kv vs X V)
 (K1:kindB t j 0 0 1=true→∀w',Mf w rb tb cap t i True w' (j+1) ((b,nodeC ki po (t.num j) m na v)::L) T kv vs X V→Q (.returned (.tuple #[])) w')
 (K2:kindB t j 0 0 1=false→∀w' s i',s.size≤20000→Hid (j<i')→Ev (fun _=>gName t) ⟨j,0,0⟩ (s,⟨i',0,0⟩)→Mf w rb tb cap t i True w' i' ((b,nodeC ki po n m s v)::L) T kv vs X V→Q (.returned (.tuple #[])) w')
 (KB:kindB t j 0 0 1=false→∀w' (p:Nat),Kp W.heap.size rb W w'→Wr (fun _=>gName t) ⟨j,0,0⟩ p→Q (throwE p) w'):
 Calls Tryz.prog 240 #[.pointer (some ⟨rb,0,none⟩),.pointer (some ⟨b,0,none⟩)] W Q:=by
 have hfd:=fld67_0
 have hfd3:=fld103_3
 have hl:=q.st.rd.l
 cases hk:kindB t j 0 0 1
 ·have hk0:((t.kind j:Int)==1)=false:=(kindB_eq q.st.rd.lt 1).symm.trans hk
  have H2:=Hid_nx (K2 hk)
  have HB:=Hid_nx (KB hk)
  clear K1 K2 KB hk
  go_enter Tryz.func240,Tryz.ntmps240
  go_wp2_with fail
  refine(tokP q.st.rd).mono ?_
  rintro e w1 ⟨rfl,hb1⟩
  have HK:Hid (Kp W.heap.size rb W w1∧W.heap.size≤w1.heap.size):=⟨Kp.of_below hb1,hb1.size⟩
  replace q:=q.below hb1
  clear hb1
  have F:=q.f1
  go_wp2_with fail
  refine q.nm (nameP2 ·) (fun w' p hk hw=>⟨rfl,HB.out w' p (HK.out.1.trans (hk.mono HK.out.2)) hw⟩) ?_
  clear q F
  intro w2 s2 i2 hs2 hl2 m2 q
  have F:=q.f1
  go_wp2_with fail
  go_end0
  exact H2.out _ s2 i2 hs2 hl2 m2 (q.p04 s2)
 ·have hk0:((t.kind j:Int)==1)=true:=(kindB_eq q.st.rd.lt 1).symm.trans hk
  have H1:=Hid_nx (K1 hk)
  have hj1:=kindB_lt q.st.rd.good q.st.rd.lt (by decide) hk
  clear K1 K2 KB hk
  go_enter Tryz.func240,Tryz.ntmps240
  go_wp2_with fail
  refine(tokP q.st.rd).mono ?_
  rintro e w1 ⟨rfl,hb1⟩
  replace q:=q.below hb1
  clear hb1
  have F:=q.f1
  go_wp2_with fail
  refine q.tak hj1 ?_
  clear q F
  intro w2 q
  have F:=q.f1
  go_wp2_with fail
  go_end0
  exact H1.out _ (q.p02 (t.num j))
theorem extendedP {N:Nat} (hE:rdP 81 N (fun t n=>gG t n 1)) (hP:rdP 239 (N+1) (fun t n=>gG t n 6)) {w:World} {rb tb i:Nat} {cap:Cp} {t:Tk} (h:Rd w rb tb cap t i 0 0) (hN:t.len - i≤N+1):
 Calls Tryz.prog 222 #[.pointer (some ⟨rb,0,none⟩)] w (NodeP w rb tb cap t i True (fun n=>gPostfix t (gG t n 1) (gG t n 6) n)):=by
 have hl:=h.l
 go_enter Tryz.func222,Tryz.ntmps222
 have q:=Mf.start h
 go_wp2_with fail
 refine(q.ne' (sz w) (zeroC)).nd (fun hr=>hP hr hN) (fun w' p hk hw=>⟨rfl,.inr ((q.ne' (sz w) (zeroC)).thr hk (Wr.fst hw (fun _ _=>by
  have h1:∀e fu,Sy (gPostfixB t (gG t fu 1) fu e):=fun e fu=>by unfold gPostfixB;exact syt
  exact Sy.loop (fun e=>h1 e _) _ _)))⟩) ?_
 clear q
 intro w1 x1 i1 y1 hl1 m1 q
 have F:=q.f1
 have HI1:Hid (i<i1):=hl1.out
 clear hl1
 have HS:Hid (∀n e,Sy (gPostfixB t (gG t n 1) n e)):=fun n e=>by unfold gPostfixB;exact syt
 go_wp2_with fail
 go_loopg [4] (t.len - i1) (fun g _ wr=>∃(x:Nf) (y:List Nr) (j:Nat),g=t.len - j∧Mf w rb tb cap t i True wr j [(sz w1,x.a),(sz w,zeroC)] [x.t] nl [] [y] []∧Hid ((∀r,EvL (fun n=>gPostfixB t (gG t n 1) n) y ⟨j,0,0⟩ r→EvL (fun n=>gPostfixB t (gG t n 1) n) y1 ⟨i1,0,0⟩ r)∧∀p,WrL (fun n=>gPostfixB t (gG t n 1) n) y ⟨j,0,0⟩ p→WrL (fun n=>gPostfixB t (gG t n 1) n) y1 ⟨i1,0,0⟩ p))
 case atStart=>exact⟨x1,y1,i1,rfl,q.ne' (sz w1) x1.a,⟨fun r h=>h,fun p h=>h⟩⟩
 case round=>
  clear F q
  obtain⟨x,y,j,hgk,q,HM⟩:=hrel
  have HG:Hid (gk=t.len - j):=hgk
  clear hgk
  have F:=q.f2
  have hposJ:(0:Int)≤(t.pos j:Int)∧(t.pos j:Int)≤7000:=by have:=h.good.posb j;omega
  have hjl:=q.st.rd.lt
  have hij:=q.go trivial
  cases hb1:isB t j 0 0 ⟨#[40]⟩
  ·have K1:=Hid_nx hb1
   cases hb2:isB t j 0 0 ⟨#[46]⟩
   ·have K2:=Hid_nx hb2
    clear hb1 hb2
    go_wp2_with fail
    refine q.lf (nodeP · 24) ?_
    clear q F
    intro w3 q
    have F:=q.f2
    go_wp2_with fail
    refine((q.ne' (sz w3) (nk 24 (t.pos j) (sl (sz w3+1) 1))).m1 (sz w3+1)).et (skipP · _ (ask)) ?_
    clear q F
    intro w4 b4 i4 hE4 m4 q
    have F:=q.f3
    obtain rfl:b4=false:=hE4.is_.trans K1.out
    obtain rfl:j=i4:=(hE4.no rfl).symm
    go_wp2_with fail
    refine q.et (skipP · _ (ask)) ?_
    clear q F
    intro w5 b5 i5 hE5 m5 q
    have F:=q.f3
    obtain rfl:b5=false:=hE5.is_.trans K2.out
    obtain rfl:j=i5:=(hE5.no rfl).symm
    go_wp2_with fail
    go_light
    exact Mf.rt q.toT Tryz.results222 2 (Ev.bnd' m1 (HM.out.1 _ (EvL.stop (by have k1:=K1.out;have k2:=K2.out;unfold gPostfixB;exact evt))).ev)
   ·have K2:=Hid_nx hb2
    clear hb1 hb2
    go_wp2_with fail
    refine q.lf (nodeP · 24) ?_
    clear q F
    intro w3 q
    have F:=q.f2
    go_wp2_with fail
    refine((q.ne' (sz w3) (nk 24 (t.pos j) (sl (sz w3+1) 1))).m1 (sz w3+1)).et (skipP · _ (ask)) ?_
    clear q F
    intro w4 b4 i4 hE4 m4 q
    have F:=q.f3
    obtain rfl:b4=false:=hE4.is_.trans K1.out
    obtain rfl:j=i4:=(hE4.no rfl).symm
    go_wp2_with fail
    refine q.et (skipP · _ (ask)) ?_
    clear q F
    intro w5 b5 i5 hE5 m5 q
    have F:=q.f3
    obtain rfl:b5=true:=hE5.is_.trans K2.out
    obtain rfl:=(hE5.yes rfl).1
    go_wp2_with fail
    refine fieldNameP (q.p00 25) ?_ ?_ ?_
    ·intro hk w6 q6
     clear q F
     have q:=q6
     clear q6
     have HK:=Hid_nx hk
     clear hk
     have F:=q.f3
     go_wp2_with fail
     have hi6:=q.st.rd.lt
     replace q:=(((q.fo 25 (t.pos j) (t.num (j+1)) 0 ⟨#[]⟩ (by simp) hposJ).pA1 25 (t.pos j) (t.num (j+1)) 0 ⟨#[]⟩ (sl (sz w3+1) 1))).pop
     go_roundg (t.len - (j+1+1))
     case measure=>rw[HG.out];omega
     case rel=>exact⟨⟨25,t.pos j,t.num (j+1),0,⟨#[]⟩,_,1,1⟩,_,j+1+1,rfl,q,⟨fun r hr=>HM.out.1 r (EvL.on (by have k1:=K1.out;have k2:=K2.out;have k3:=HK.out;unfold gPostfixB;exact evt) hr),fun p hp=>HM.out.2 p (WrL.on (by have k1:=K1.out;have k2:=K2.out;have k3:=HK.out;unfold gPostfixB;exact evt) hp)⟩⟩
    ·intro hk w6 s6 i6 hs6 hl6 m6 q6
     clear q F
     have q:=q6
     clear q6
     have HK:=Hid_nx hk
     clear hk
     have F:=q.f3
     go_wp2_with fail
     have hi6:=q.st.rd.lt
     have hl6:=hl6.out
     replace q:=(((q.fo 25 (t.pos j) 0 0 s6 (by simp) hposJ hs6).pA1 25 (t.pos j) 0 0 s6 (sl (sz w3+1) 1))).pop
     go_roundg (t.len - i6)
     case measure=>rw[HG.out];omega
     case rel=>exact⟨⟨25,t.pos j,0,0,s6,_,1,1⟩,_,i6,rfl,q,⟨fun r hr=>HM.out.1 r (EvL.on (by have k1:=K1.out;have k2:=K2.out;have k3:=HK.out;unfold gPostfixB;exact evt) hr),fun p hp=>HM.out.2 p (WrL.on (by have k1:=K1.out;have k2:=K2.out;have k3:=HK.out;unfold gPostfixB;exact evt) hp)⟩⟩
    ·intro hk w6 p hkp hw
     exact⟨rfl,.inr (Mf.thr (q.p00 25) hkp (Wr.snd m1 (HM.out.2 _ (WrL.here (by have k1:=K1.out;have k2:=K2.out;unfold gPostfixB;exact wrt) HS.out)).wr))⟩
  ·have K1:=Hid_nx hb1
   clear hb1
   go_wp2_with fail
   refine q.lf (nodeP · 24) ?_
   clear q F
   intro w3 q
   have F:=q.f2
   go_wp2_with fail
   refine((q.ne' (sz w3) (nk 24 (t.pos j) (sl (sz w3+1) 1))).m1 (sz w3+1)).et (skipP · _ (ask)) ?_
   clear q F
   intro w4 b4 i4 hE4 m4 q
   have F:=q.f3
   obtain rfl:b4=true:=hE4.is_.trans K1.out
   obtain rfl:=(hE4.yes rfl).1
   go_wp2_with fail
   have HTH:Hid (∀p,Wr (fun n=>gList t (gG t n 1) ⟨#[41]⟩ n) ⟨j+1,0,0⟩ p→Wr (fun n=>gPostfix t (gG t n 1) (gG t n 6) n) ⟨i,0,0⟩ p):=fun p hw=>Wr.snd m1 (HM.out.2 _ (WrL.here (by have k1:=K1.out;unfold gPostfixB;exact wrt) HS.out)).wr
   have HNN:Hid (∀m,j+1≤m→m<t.len→t.len - m≤N):=fun m h1 h2=>by omega
   go_region_law (first|(refine q.aps hVx5 hKx5 (by simp) (by have:=hlx5.out.2.1;have:=q.st.rd.lt;have:=h.good.few;omega) ?_;clear q F hKx5;intro w7 ao5 cp5 q;have F:=q.f3)|(go_simp;refine q.lh (fun hr=>listP hr (mm:=fun n=>gList t (gG t n 1) ⟨#[41]⟩ n) (ask) (fun _=>ask) (fun _=>lit) ein81 (rowLike (t:=t) (en:=⟨#[41]⟩) (fun n=>gG_st _ _ _) |>.maybe (lit) (lit)).1 (rowLike (t:=t) (en:=⟨#[41]⟩) (fun n=>gG_st _ _ _) |>.maybe (lit) (lit)).2 (fun{w' j} hr' hj=>app0a (hE hr' (HNN.out _ hj hr'.lt)))) (fun w' p hk hw=>⟨rfl,.inr (q.thr hk (HTH.out _ hw))⟩) ?_;clear q F;intro w6 aox5 cpx5 vs5 i5 V5 hlx5 hVx5 hKx5 m5 q;have F:=q.f3)|(replace q:=q.drew;go_simp;refine q.lf (fun _=>maybeP _) ?_;clear q F;intro w5 q;have F:=q.f3))
   all_goals
    replace q:=q.p05 (.slice ao5 (1+vs5.length) cp5)
    have F:=q.f3
    go_wp2_with fail
    have hi6:=q.st.rd.lt
    have hl6:=hlx5.out.1
    have hl7:=hlx5.out.2.1
    have hfew:=h.good.few
    replace q:=(((q.fo 24 (t.pos j) 0 0 ⟨#[]⟩ (by simp;omega) hposJ).pA1 24 (t.pos j) 0 0 ⟨#[]⟩ (.slice ao5 (1+vs5.length) cp5))).pop
    go_roundg (t.len - i5)
    case measure=>rw[HG.out];omega
    case rel=>exact⟨⟨24,t.pos j,0,0,⟨#[]⟩,ao5,1+vs5.length,cp5⟩,_,i5,rfl,q,⟨fun r hr=>HM.out.1 r (EvL.on (by have k1:=K1.out;unfold gPostfixB;exact evt) hr),fun p hp=>HM.out.2 p (WrL.on (by have k1:=K1.out;unfold gPostfixB;exact evt) hp)⟩⟩
end Go.Proofs.YtdplogkmkgekdaaGreatDoor.Pj
namespace Go.Proofs.YtdplogkmkgekdaaGreatDoor.Pj
open Go.RowKit
theorem ta_yes (k:Int) (w:World):(Instr.typeAssert (.iface 43 (.agg #[.int .i64 k])) 20 43 true).run Tryz.prog w=.ok (.tuple #[.agg #[.int .i64 k],.bool true]) w:=by kernel_rfl
theorem catch_r (p1 p2:Addr) (w:World):
 CallsD Tryz.prog 12 #[.pointer (some p1),.pointer (some p2)] .returning w fun e u' w'=>e=.returned (.tuple #[])∧u'=.returning∧w'=w:=by
 refine callsD_of_wpS Tryz.func12 rfl fun c₀ cs hu=>?_
 apply wpS_seq
 apply wpS_region
 rw[Tryz.ntmps12]
 simp[wpOpsS,go_sem,recoverD,hu,Exit.thenS,Array.replicate]
 refine wpS_of_wp ?_
 go_wp2_with fail
 cases c₀
 simp_all [bodyPostS,results,Tryz.results12]
theorem caughtG {b1:Nat} {o o2:Obj} {w W:World} (h1:Blk W b1 zeroC) (h2:W.heap[b1+1]? =some o2) (hb:Below b1 w W):Blk (W.alloc o).drew b1 zeroC∧(W.alloc o).drew.heap[b1+1]? =some o2∧Below b1 w (W.alloc o).drew:=by
 have l1:=h1.lt
 have l2:(W.alloc o).heap[b1+1]? =some o2:=(Below.heap_alloc _ _ _ (Array.getElem?_eq_some_iff.1 h2).1).trans h2
 exact⟨(h1.alloc _).drew,l2,(hb.alloc (by omega) _).drew⟩
theorem caught {b1 p:Nat} {w:World} (hB:Blk w b1 zeroC) (hC:w.heap[b1+1]? =some (.cells #[.int .i64 0,.int .i64 0] 31 (0,0))):Blk (((((set11 w b1 (.int .i64 0) (.int .i64 0) (.int .i64 0) (.int .i64 0) (.string ⟨#[]⟩) (.slice none 0 0) (.int .i64 0) (.int .i64 0) (.slice none 0 0) (.slice none 0 0) (.slice none 0 0)).setCell ⟨b1+1,0,none⟩ (.int .i64 4)).setCell ⟨b1+1,1,none⟩ (.int .i64 p)).alloc (.cells #[.int .i64 p] 43)).drew) b1 zeroC∧(((((set11 w b1 (.int .i64 0) (.int .i64 0) (.int .i64 0) (.int .i64 0) (.string ⟨#[]⟩) (.slice none 0 0) (.int .i64 0) (.int .i64 0) (.slice none 0 0) (.slice none 0 0) (.slice none 0 0)).setCell ⟨b1+1,0,none⟩ (.int .i64 4)).setCell ⟨b1+1,1,none⟩ (.int .i64 p)).alloc (.cells #[.int .i64 p] 43)).drew).heap[b1+1]? =some (.cells #[.int .i64 4,.int .i64 p] 31 (0,0))∧Below b1 w (((((set11 w b1 (.int .i64 0) (.int .i64 0) (.int .i64 0) (.int .i64 0) (.string ⟨#[]⟩) (.slice none 0 0) (.int .i64 0) (.int .i64 0) (.slice none 0 0) (.slice none 0 0) (.slice none 0 0)).setCell ⟨b1+1,0,none⟩ (.int .i64 4)).setCell ⟨b1+1,1,none⟩ (.int .i64 p)).alloc (.cells #[.int .i64 p] 43)).drew):=by
 have h:=stored_a hB hC (.int .i64 0) (.int .i64 0) (.int .i64 0) (.int .i64 0) (.string ⟨#[]⟩) (.slice none 0 0) (.int .i64 0) (.int .i64 0) (.slice none 0 0) (.slice none 0 0) (.slice none 0 0) 4 p
 have hb:Below b1 w (((set11 w b1 (.int .i64 0) (.int .i64 0) (.int .i64 0) (.int .i64 0) (.string ⟨#[]⟩) (.slice none 0 0) (.int .i64 0) (.int .i64 0) (.slice none 0 0) (.slice none 0 0) (.slice none 0 0)).setCell ⟨b1+1,0,none⟩ (.int .i64 4)).setCell ⟨b1+1,1,none⟩ (.int .i64 p)):=((Below.set11 (Below.refl _ _) (Nat.le_refl _) _ _ _ _ _ _ _ _ _ _ _).setCell (p:=⟨b1+1,0,none⟩) (Nat.le_succ _) _).setCell (p:=⟨b1+1,1,none⟩) (Nat.le_succ _) _
 exact caughtG h.1 h.2 hb
theorem catch_p {b1:Nat} (p:Nat) {older:List PanicEntry} {w:World} (hB:Blk w b1 zeroC) (hC:w.heap[b1+1]? =some (.cells #[.int .i64 0,.int .i64 0] 31 (0,0))):
 CallsD Tryz.prog 12 #[.pointer (some ⟨b1,0,none⟩),.pointer (some ⟨b1+1,0,none⟩)] (.panicking ({v:=.iface 43 (.agg #[.int .i64 p]),recovered:=false}::older)) w fun e u' w'=>
  e=.returned (.tuple #[])∧u'=.panicking ({v:=.iface 43 (.agg #[.int .i64 p]),recovered:=true}::older)∧Blk w' b1 zeroC∧w'.heap[b1+1]? =some (.cells #[.int .i64 4,.int .i64 p] 31 (0,0))∧Below b1 w w':=by
 refine callsD_of_wpS Tryz.func12 rfl fun c₀ cs hu=>?_
 have hta:=ta_yes p
 have c1:=hB.cell;have f1:=hB.fz;have l1:=hB.lt
 have c2:∀o,w.cell? ⟨b1+1,o,none⟩=(#[.int .i64 0,.int .i64 0]:Array Value)[o]? :=fun o=>cell_of_row _ _ o _ 31 (0,0) hC
 have f2:∀o,w.frozen? ⟨b1+1,o,none⟩=false:=fun o=>frozen_of_row _ _ o _ 31 hC
 have l2:=(Array.getElem?_eq_some_iff.1 hC).1
 have hne:b1≠b1+1:=by omega
 have ne21:b1+1≠b1:=by omega
 have n1:b1≠w.heap.size:=by omega
 have n2:b1+1≠w.heap.size:=by omega
 apply wpS_seq
 apply wpS_region
 rw[Tryz.ntmps12]
 simp[wpOpsS,go_sem,recoverD,hu,Exit.thenS,Array.replicate]
 refine wpS_of_wp ?_
 go_wp2_with fail
 go_region
 all_goals
  go_wp2_with fail
  refine⟨rfl,_,rfl,.tuple #[],(by simp[results,Tryz.results12,go_sem]),rfl,rfl,caught hB hC⟩
end Go.Proofs.YtdplogkmkgekdaaGreatDoor.Pj
