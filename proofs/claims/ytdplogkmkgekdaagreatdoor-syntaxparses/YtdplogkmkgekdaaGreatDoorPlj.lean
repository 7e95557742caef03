/- How deep a tree is, as the project asks it. -/
import Derived.Test.YtdplogkmkgekdaaGreatDoorPkzh
import Derived.Test.YtdplogkmkgekdaaGreatDoorFParseA
import Derived.Test.YtdplogkmkgekdaaGreatDoorPka
import Derived.Test.YtdplogkmkgekdaaGreatDoorFDeep
import Derived.Test.YtdplogkmkgekdaaGreatDoorPkd
set_option linter.all false
set_option maxRecDepth 100000
set_option maxHeartbeats 4000000
namespace Go.Proofs.YtdplogkmkgekdaaGreatDoor.Pj
open Go.RowKit
def gLetT (t:Tk) (E:GP (List Nr)) (p nn n2 m:Int) (s:ByteArray) (V:List (List Nr)):GP (List Nr):=bnd (gEat t ⟨#[61]⟩) (fun b=>cond b (bnd E (fun z=>seq (gWant t ⟨#[59]⟩) (ret (nd 43 p n2 m s (V++[z]))))) (seq (gWant t ⟨#[59]⟩) (ret (nd 43 p nn m s V))))
theorem letP1 {N:Nat} (hT:rdP 70 N (fun t n=>gG t n 0)) (hE:rdP 81 N (fun t n=>gG t n 1)) {w:World} {rb tb i:Nat} {cap:Cp} {t:Tk} (h:Rd w rb tb cap t i 0 0) (hN:t.len - i≤N+1) (hm:isB t (i+1) 0 0 ⟨#[109,117,116]⟩=true) (hb:isB t i 0 0 ⟨#[108,101,116]⟩=true):
 Calls Tryz.prog 198 #[.pointer (some ⟨rb,0,none⟩)] w (NodeP w rb tb cap t i True (fun n=>gLetS t (gG t n 0) (gG t n 1))):=by
 have hl:=h.l
 have hposI:(0:Int)≤(t.pos i:Int)∧(t.pos i:Int)≤7000:=by have:=h.good.posb i;omega
 have HB:=Hid_nx hb
 clear hb
 have HM:=Hid_nx hm
 clear hm
 have hb:=HB.out
 go_enter Tryz.func198,Tryz.ntmps198
 have q:=Mf.start h
 go_wp2_with fail
 refine(q.ne' (sz w) (zeroC)).lf (nodeP · 43) ?_
 clear q
 intro w1 q
 have F:=q.f1
 go_wp2_with fail
 refine(q.ne' (sz w1) (nk 43 (t.pos i) nl)).wy (mustP · _ (ask)) HB.out ?_
 clear q F
 intro w2 q
 have F:=q.f2
 go_wp2_with fail
 refine q.et (skipP · _ (ask)) ?_
 clear q F
 intro w3 b3 i3 hE3 m3 q
 have F:=q.f2
 obtain rfl:b3=true:=hE3.is_.trans HM.out
 go_wp2_with fail
 refine(q.p03 1).nm (nameP2 ·) (fun w' p hk hw=>⟨rfl,.inr ((q.p03 1).thr hk (by unfold gLetS;unfold gMut;exact wrt))⟩) ?_
 clear q F
 intro w4 s4 i4 hs4 hl4 m4 q
 have F:=q.f2
 go_wp2_with fail
 refine(q.p04 s4).et (skipP · _ (ask)) ?_
 clear q F
 intro w5 b5 i5 hE5 m5 q
 have F:=q.f2
 go_upto_if 15 with fail
 go_cut [] (fun wx=>∃(nn n2:Int) (v:Value) (vs:List (List Value)) (V:List (List Nr)) (j:Nat),((nn=0∧n2=2)∨(nn=1∧n2=3))∧Hid (vs.length≤1)∧Hid ((∀r,Ev (fun n=>gLetT t (gG t n 1) (t.pos i) nn n2 1 s4 V) ⟨j,0,0⟩ r→Ev (fun n=>gLetS t (gG t n 0) (gG t n 1)) ⟨i,0,0⟩ r)∧∀p,Wr (fun n=>gLetT t (gG t n 1) (t.pos i) nn n2 1 s4 V) ⟨j,0,0⟩ p→Wr (fun n=>gLetS t (gG t n 0) (gG t n 1)) ⟨i,0,0⟩ p)∧Mf w rb tb cap t i True wx j [(sz w1,nodeC 43 (t.pos i) nn 1 s4 v),(sz w,zeroC)] [] v vs [] V)
 case first=>
  cases b5
  ·go_wp2_with fail
   go_meet
   exact⟨0,2,nl,[],[],i5,.inl ⟨rfl,rfl⟩,Nat.zero_le _,⟨fun r hr=>Ev.bnd' ev_at (Ev.seq (ev_wyes HB.out) (Ev.bnd' (Ev.bnd' m3 (Ev.yes rfl Ev.ret')) (Ev.bnd' m4 (Ev.bnd' m5 (Ev.no rfl hr))))),fun p hp=>Wr.snd ev_at (Wr.sqd (ev_wyes HB.out) (Wr.snd (Ev.bnd' m3 (Ev.yes rfl Ev.ret')) (Wr.snd m4 (Wr.snd m5 (Wr.no rfl hp)))))⟩,q⟩
  ·have HTT:Hid (∀p,Wr (fun n=>gG t n 0) ⟨i5,0,0⟩ p→Wr (fun n=>gLetS t (gG t n 0) (gG t n 1)) ⟨i,0,0⟩ p):=fun p hw=>Wr.snd ev_at (Wr.sqd (ev_wyes HB.out) (Wr.snd (Ev.bnd' m3 (Ev.yes rfl Ev.ret')) (Wr.snd m4 (Wr.snd m5 (Wr.yes rfl (Wr.fst hw (fun _ _=>syt)))))))
   go_wp2_with fail
   go_region_law (first|(refine q.as (sz w6) (by simp) ?_;clear q F;intro w7 ao6 cp6 q;have F:=q.f2)|(replace q:=(q.p02 1).drew;go_simp;refine q.nd (fun hr=>hT hr (by have:=hr.lt;have:=q.go trivial;omega)) (fun w' p hk hw=>⟨rfl,.inr (q.thr hk (HTT.out _ hw))⟩) ?_;clear q F;intro w6 x6 i6 y6 hl6 m6 q;have F:=q.f2))
   all_goals
    go_wp2_with fail
    go_meet
    exact⟨1,3,_,_,[y6],i6,.inr ⟨rfl,rfl⟩,(by show _≤1;simp),⟨fun r hr=>Ev.bnd' ev_at (Ev.seq (ev_wyes HB.out) (Ev.bnd' (Ev.bnd' m3 (Ev.yes rfl Ev.ret')) (Ev.bnd' m4 (Ev.bnd' m5 (Ev.yes rfl (Ev.bnd' m6 hr)))))),fun p hp=>Wr.snd ev_at (Wr.sqd (ev_wyes HB.out) (Wr.snd (Ev.bnd' m3 (Ev.yes rfl Ev.ret')) (Wr.snd m4 (Wr.snd m5 (Wr.yes rfl (Wr.snd m6 hp))))))⟩,q.p05 (.slice ao6 (0+1) cp6)⟩
 case rest=>
  clear F q
  obtain⟨nn,n2,v,vs,V,j,hnn,HV1,HC,q⟩:=hcut
  obtain⟨w7,hw⟩:∃x,x=wc:=⟨_,rfl⟩
  subst hw
  obtain⟨ao3,cp3,rfl⟩:=q.shape
  have F:=q.f2
  rcases hnn with⟨rfl,rfl⟩|⟨rfl,rfl⟩
  ·go_wp2_with fail
   refine q.et (skipP · _ (ask)) ?_
   clear q F
   intro w8 b8 i8 hE8 m8 q
   have F:=q.f2
   go_wp2_with fail
   ·have hb8:b8=true:= ‹_›
    subst hb8
    have HTE:Hid (∀p,Wr (fun n=>gG t n 1) ⟨i8,0,0⟩ p→Wr (fun n=>gLetS t (gG t n 0) (gG t n 1)) ⟨i,0,0⟩ p):=fun p hw=>HC.out.2 _ (by unfold gLetT;exact Wr.snd m8 (Wr.yes rfl (Wr.fst hw (fun _ _=>syt))))
    go_wp2_with fail
    go_region_law (first|(refine q.as (sz w9) (Nat.le_trans HV1.out (by decide)) ?_;clear q F;intro w10 ao9 cp9 q;have F:=q.f2)|(replace q:=(q.p02 2).drew;go_simp;refine q.nd (fun hr=>hE hr (by have:=hr.lt;have:=q.go trivial;omega)) (fun w' p hk hw=>⟨rfl,.inr (q.thr hk (HTE.out _ hw))⟩) ?_;clear q F;intro w9 x9 i9 y9 hl9 m9 q;have F:=q.f2))
    all_goals
     go_wp2_with fail
     refine(q.p05 (.slice ao9 (vs.length+1) cp9)).wn (mustP · _ (ask)) (fun w' hk hw=>⟨rfl,.inr ((q.p05 (.slice ao9 (vs.length+1) cp9)).thr hk (HC.out.2 _ (by unfold gLetT;exact Wr.snd m8 (Wr.yes rfl (Wr.snd m9 (Wr.sq hw (fun _=>Sy.ret)))))))⟩) ?_
     clear q F
     intro w11 m11 q
     have F:=q.f2
     go_wp2_with fail
     go_light
     exact Mf.rt (q.fo 43 (t.pos i) 2 1 s4 (by have:=HV1.out;simp;omega) hposI hs4) Tryz.results198 1 (HC.out.1 _ (by unfold gLetT;exact Ev.bnd' m8 (Ev.yes rfl (Ev.bnd' m9 (Ev.seq m11 Ev.ret')))))
   ·have hb8:b8=false:= ‹_›
    subst hb8
    go_wp2_with fail
    refine q.wn (mustP · _ (ask)) (fun w' hk hw=>⟨rfl,.inr (q.thr hk (HC.out.2 _ (by unfold gLetT;exact Wr.snd m8 (Wr.no rfl (Wr.sq hw (fun _=>Sy.ret))))))⟩) ?_
    clear q F
    intro w12 m11 q
    have F:=q.f2
    go_wp2_with fail
    go_light
    exact Mf.rt (q.fo 43 (t.pos i) 0 1 s4 (Nat.le_trans HV1.out (by decide)) hposI hs4) Tryz.results198 1 (HC.out.1 _ (by unfold gLetT;exact Ev.bnd' m8 (Ev.no rfl (Ev.seq m11 Ev.ret'))))
  ·go_wp2_with fail
   refine q.et (skipP · _ (ask)) ?_
   clear q F
   intro w8 b8 i8 hE8 m8 q
   have F:=q.f2
   go_wp2_with fail
   ·have hb8:b8=true:= ‹_›
    subst hb8
    have HTE:Hid (∀p,Wr (fun n=>gG t n 1) ⟨i8,0,0⟩ p→Wr (fun n=>gLetS t (gG t n 0) (gG t n 1)) ⟨i,0,0⟩ p):=fun p hw=>HC.out.2 _ (by unfold gLetT;exact Wr.snd m8 (Wr.yes rfl (Wr.fst hw (fun _ _=>syt))))
    go_wp2_with fail
    go_region_law (first|(refine q.as (sz w9) (Nat.le_trans HV1.out (by decide)) ?_;clear q F;intro w10 ao9 cp9 q;have F:=q.f2)|(replace q:=(q.p02 3).drew;go_simp;refine q.nd (fun hr=>hE hr (by have:=hr.lt;have:=q.go trivial;omega)) (fun w' p hk hw=>⟨rfl,.inr (q.thr hk (HTE.out _ hw))⟩) ?_;clear q F;intro w9 x9 i9 y9 hl9 m9 q;have F:=q.f2))
    all_goals
     go_wp2_with fail
     refine(q.p05 (.slice ao9 (vs.length+1) cp9)).wn (mustP · _ (ask)) (fun w' hk hw=>⟨rfl,.inr ((q.p05 (.slice ao9 (vs.length+1) cp9)).thr hk (HC.out.2 _ (by unfold gLetT;exact Wr.snd m8 (Wr.yes rfl (Wr.snd m9 (Wr.sq hw (fun _=>Sy.ret)))))))⟩) ?_
     clear q F
     intro w11 m11 q
     have F:=q.f2
     go_wp2_with fail
     go_light
     exact Mf.rt (q.fo 43 (t.pos i) 3 1 s4 (by have:=HV1.out;simp;omega) hposI hs4) Tryz.results198 1 (HC.out.1 _ (by unfold gLetT;exact Ev.bnd' m8 (Ev.yes rfl (Ev.bnd' m9 (Ev.seq m11 Ev.ret')))))
   ·have hb8:b8=false:= ‹_›
    subst hb8
    go_wp2_with fail
    refine q.wn (mustP · _ (ask)) (fun w' hk hw=>⟨rfl,.inr (q.thr hk (HC.out.2 _ (by unfold gLetT;exact Wr.snd m8 (Wr.no rfl (Wr.sq hw (fun _=>Sy.ret))))))⟩) ?_
    clear q F
    intro w12 m11 q
    have F:=q.f2
    go_wp2_with fail
    go_light
    exact Mf.rt (q.fo 43 (t.pos i) 1 1 s4 (Nat.le_trans HV1.out (by decide)) hposI hs4) Tryz.results198 1 (HC.out.1 _ (by unfold gLetT;exact Ev.bnd' m8 (Ev.no rfl (Ev.seq m11 Ev.ret'))))
theorem letP0 {N:Nat} (hT:rdP 70 N (fun t n=>gG t n 0)) (hE:rdP 81 N (fun t n=>gG t n 1)) {w:World} {rb tb i:Nat} {cap:Cp} {t:Tk} (h:Rd w rb tb cap t i 0 0) (hN:t.len - i≤N+1) (hm:isB t (i+1) 0 0 ⟨#[109,117,116]⟩=false) (hb:isB t i 0 0 ⟨#[108,101,116]⟩=true):
 Calls Tryz.prog 198 #[.pointer (some ⟨rb,0,none⟩)] w (NodeP w rb tb cap t i True (fun n=>gLetS t (gG t n 0) (gG t n 1))):=by
 have hl:=h.l
 have hposI:(0:Int)≤(t.pos i:Int)∧(t.pos i:Int)≤7000:=by have:=h.good.posb i;omega
 have HB:=Hid_nx hb
 clear hb
 have HM:=Hid_nx hm
 clear hm
 have hb:=HB.out
 go_enter Tryz.func198,Tryz.ntmps198
 have q:=Mf.start h
 go_wp2_with fail
 refine(q.ne' (sz w) (zeroC)).lf (nodeP · 43) ?_
 clear q
 intro w1 q
 have F:=q.f1
 go_wp2_with fail
 refine(q.ne' (sz w1) (nk 43 (t.pos i) nl)).wy (mustP · _ (ask)) HB.out ?_
 clear q F
 intro w2 q
 have F:=q.f2
 go_wp2_with fail
 refine q.et (skipP · _ (ask)) ?_
 clear q F
 intro w3 b3 i3 hE3 m3 q
 have F:=q.f2
 obtain rfl:b3=false:=hE3.is_.trans HM.out
 go_wp2_with fail
 refine q.nm (nameP2 ·) (fun w' p hk hw=>⟨rfl,.inr (q.thr hk (by unfold gLetS;unfold gMut;exact wrt))⟩) ?_
 clear q F
 intro w4 s4 i4 hs4 hl4 m4 q
 have F:=q.f2
 go_wp2_with fail
 refine(q.p04 s4).et (skipP · _ (ask)) ?_
 clear q F
 intro w5 b5 i5 hE5 m5 q
 have F:=q.f2
 go_upto_if 15 with fail
 go_cut [] (fun wx=>∃(nn n2:Int) (v:Value) (vs:List (List Value)) (V:List (List Nr)) (j:Nat),((nn=0∧n2=2)∨(nn=1∧n2=3))∧Hid (vs.length≤1)∧Hid ((∀r,Ev (fun n=>gLetT t (gG t n 1) (t.pos i) nn n2 0 s4 V) ⟨j,0,0⟩ r→Ev (fun n=>gLetS t (gG t n 0) (gG t n 1)) ⟨i,0,0⟩ r)∧∀p,Wr (fun n=>gLetT t (gG t n 1) (t.pos i) nn n2 0 s4 V) ⟨j,0,0⟩ p→Wr (fun n=>gLetS t (gG t n 0) (gG t n 1)) ⟨i,0,0⟩ p)∧Mf w rb tb cap t i True wx j [(sz w1,nodeC 43 (t.pos i) nn 0 s4 v),(sz w,zeroC)] [] v vs [] V)
 case first=>
  cases b5
  ·go_wp2_with fail
   go_meet
   exact⟨0,2,nl,[],[],i5,.inl ⟨rfl,rfl⟩,Nat.zero_le _,⟨fun r hr=>Ev.bnd' ev_at (Ev.seq (ev_wyes HB.out) (Ev.bnd' (Ev.bnd' m3 (Ev.no rfl Ev.ret')) (Ev.bnd' m4 (Ev.bnd' m5 (Ev.no rfl hr))))),fun p hp=>Wr.snd ev_at (Wr.sqd (ev_wyes HB.out) (Wr.snd (Ev.bnd' m3 (Ev.no rfl Ev.ret')) (Wr.snd m4 (Wr.snd m5 (Wr.no rfl hp)))))⟩,q⟩
  ·have HTT:Hid (∀p,Wr (fun n=>gG t n 0) ⟨i5,0,0⟩ p→Wr (fun n=>gLetS t (gG t n 0) (gG t n 1)) ⟨i,0,0⟩ p):=fun p hw=>Wr.snd ev_at (Wr.sqd (ev_wyes HB.out) (Wr.snd (Ev.bnd' m3 (Ev.no rfl Ev.ret')) (Wr.snd m4 (Wr.snd m5 (Wr.yes rfl (Wr.fst hw (fun _ _=>syt)))))))
   go_wp2_with fail
   go_region_law (first|(refine q.as (sz w6) (by simp) ?_;clear q F;intro w7 ao6 cp6 q;have F:=q.f2)|(replace q:=(q.p02 1).drew;go_simp;refine q.nd (fun hr=>hT hr (by have:=hr.lt;have:=q.go trivial;omega)) (fun w' p hk hw=>⟨rfl,.inr (q.thr hk (HTT.out _ hw))⟩) ?_;clear q F;intro w6 x6 i6 y6 hl6 m6 q;have F:=q.f2))
   all_goals
    go_wp2_with fail
    go_meet
    exact⟨1,3,_,_,[y6],i6,.inr ⟨rfl,rfl⟩,(by show _≤1;simp),⟨fun r hr=>Ev.bnd' ev_at (Ev.seq (ev_wyes HB.out) (Ev.bnd' (Ev.bnd' m3 (Ev.no rfl Ev.ret')) (Ev.bnd' m4 (Ev.bnd' m5 (Ev.yes rfl (Ev.bnd' m6 hr)))))),fun p hp=>Wr.snd ev_at (Wr.sqd (ev_wyes HB.out) (Wr.snd (Ev.bnd' m3 (Ev.no rfl Ev.ret')) (Wr.snd m4 (Wr.snd m5 (Wr.yes rfl (Wr.snd m6 hp))))))⟩,q.p05 (.slice ao6 (0+1) cp6)⟩
 case rest=>
  clear F q
  obtain⟨nn,n2,v,vs,V,j,hnn,HV1,HC,q⟩:=hcut
  obtain⟨w7,hw⟩:∃x,x=wc:=⟨_,rfl⟩
  subst hw
  obtain⟨ao3,cp3,rfl⟩:=q.shape
  have F:=q.f2
  rcases hnn with⟨rfl,rfl⟩|⟨rfl,rfl⟩
  ·go_wp2_with fail
   refine q.et (skipP · _ (ask)) ?_
   clear q F
   intro w8 b8 i8 hE8 m8 q
   have F:=q.f2
   go_wp2_with fail
   ·have hb8:b8=true:= ‹_›
    subst hb8
    have HTE:Hid (∀p,Wr (fun n=>gG t n 1) ⟨i8,0,0⟩ p→Wr (fun n=>gLetS t (gG t n 0) (gG t n 1)) ⟨i,0,0⟩ p):=fun p hw=>HC.out.2 _ (by unfold gLetT;exact Wr.snd m8 (Wr.yes rfl (Wr.fst hw (fun _ _=>syt))))
    go_wp2_with fail
    go_region_law (first|(refine q.as (sz w9) (Nat.le_trans HV1.out (by decide)) ?_;clear q F;intro w10 ao9 cp9 q;have F:=q.f2)|(replace q:=(q.p02 2).drew;go_simp;refine q.nd (fun hr=>hE hr (by have:=hr.lt;have:=q.go trivial;omega)) (fun w' p hk hw=>⟨rfl,.inr (q.thr hk (HTE.out _ hw))⟩) ?_;clear q F;intro w9 x9 i9 y9 hl9 m9 q;have F:=q.f2))
    all_goals
     go_wp2_with fail
     refine(q.p05 (.slice ao9 (vs.length+1) cp9)).wn (mustP · _ (ask)) (fun w' hk hw=>⟨rfl,.inr ((q.p05 (.slice ao9 (vs.length+1) cp9)).thr hk (HC.out.2 _ (by unfold gLetT;exact Wr.snd m8 (Wr.yes rfl (Wr.snd m9 (Wr.sq hw (fun _=>Sy.ret)))))))⟩) ?_
     clear q F
     intro w11 m11 q
     have F:=q.f2
     go_wp2_with fail
     go_light
     exact Mf.rt (q.fo 43 (t.pos i) 2 0 s4 (by have:=HV1.out;simp;omega) hposI hs4) Tryz.results198 1 (HC.out.1 _ (by unfold gLetT;exact Ev.bnd' m8 (Ev.yes rfl (Ev.bnd' m9 (Ev.seq m11 Ev.ret')))))
   ·have hb8:b8=false:= ‹_›
    subst hb8
    go_wp2_with fail
    refine q.wn (mustP · _ (ask)) (fun w' hk hw=>⟨rfl,.inr (q.thr hk (HC.out.2 _ (by unfold gLetT;exact Wr.snd m8 (Wr.no rfl (Wr.sq hw (fun _=>Sy.ret))))))⟩) ?_
    clear q F
    intro w12 m11 q
    have F:=q.f2
    go_wp2_with fail
    go_light
    exact Mf.rt (q.fo 43 (t.pos i) 0 0 s4 (Nat.le_trans HV1.out (by decide)) hposI hs4) Tryz.results198 1 (HC.out.1 _ (by unfold gLetT;exact Ev.bnd' m8 (Ev.no rfl (Ev.seq m11 Ev.ret'))))
  ·go_wp2_with fail
   refine q.et (skipP · _ (ask)) ?_
   clear q F
   intro w8 b8 i8 hE8 m8 q
   have F:=q.f2
   go_wp2_with fail
   ·have hb8:b8=true:= ‹_›
    subst hb8
    have HTE:Hid (∀p,Wr (fun n=>gG t n 1) ⟨i8,0,0⟩ p→Wr (fun n=>gLetS t (gG t n 0) (gG t n 1)) ⟨i,0,0⟩ p):=fun p hw=>HC.out.2 _ (by unfold gLetT;exact Wr.snd m8 (Wr.yes rfl (Wr.fst hw (fun _ _=>syt))))
    go_wp2_with fail
    go_region_law (first|(refine q.as (sz w9) (Nat.le_trans HV1.out (by decide)) ?_;clear q F;intro w10 ao9 cp9 q;have F:=q.f2)|(replace q:=(q.p02 3).drew;go_simp;refine q.nd (fun hr=>hE hr (by have:=hr.lt;have:=q.go trivial;omega)) (fun w' p hk hw=>⟨rfl,.inr (q.thr hk (HTE.out _ hw))⟩) ?_;clear q F;intro w9 x9 i9 y9 hl9 m9 q;have F:=q.f2))
    all_goals
     go_wp2_with fail
     refine(q.p05 (.slice ao9 (vs.length+1) cp9)).wn (mustP · _ (ask)) (fun w' hk hw=>⟨rfl,.inr ((q.p05 (.slice ao9 (vs.length+1) cp9)).thr hk (HC.out.2 _ (by unfold gLetT;exact Wr.snd m8 (Wr.yes rfl (Wr.snd m9 (Wr.sq hw (fun _=>Sy.ret)))))))⟩) ?_
     clear q F
     intro w11 m11 q
     have F:=q.f2
     go_wp2_with fail
     go_light
     exact Mf.rt (q.fo 43 (t.pos i) 3 0 s4 (by have:=HV1.out;simp;omega) hposI hs4) Tryz.results198 1 (HC.out.1 _ (by unfold gLetT;exact Ev.bnd' m8 (Ev.yes rfl (Ev.bnd' m9 (Ev.seq m11 Ev.ret')))))
   ·have hb8:b8=false:= ‹_›
    subst hb8
    go_wp2_with fail
    refine q.wn (mustP · _ (ask)) (fun w' hk hw=>⟨rfl,.inr (q.thr hk (HC.out.2 _ (by unfold gLetT;exact Wr.snd m8 (Wr.no rfl (Wr.sq hw (fun _=>Sy.ret))))))⟩) ?_
    clear q F
    intro w12 m11 q
    have F:=q.f2
    go_wp2_with fail
    go_light
    exact Mf.rt (q.fo 43 (t.pos i) 1 0 s4 (Nat.le_trans HV1.out (by decide)) hposI hs4) Tryz.results198 1 (HC.out.1 _ (by unfold gLetT;exact Ev.bnd' m8 (Ev.no rfl (Ev.seq m11 Ev.ret'))))
end Go.Proofs.YtdplogkmkgekdaaGreatDoor.Pj
namespace Go.Proofs.YtdplogkmkgekdaaGreatDoor
open Go.RowKit
theorem lex_each {P:TokR→Prop} {s:ByteArray} (hP:∀i,i<s.size→(one s i).err=0→P ⟨(one s i).kind,i,oneText s i (one s i),(one s i).n⟩):∀(b i:Nat) (rs:List TokR) (ts:List (List Value)),i≤s.size→(∀r∈rs,P r)→lexFrom b s i (rs.map TokR.cells)=.inr ts→
 ∃rs':List TokR,ts=(rs'++[(⟨0,s.size,⟨#[]⟩,0⟩:TokR)]).map TokR.cells∧∀r∈rs',P r:=by
 intro b
 induction b with
 |zero=>
  intro i rs ts hi hr h
  have h':Sum.inr (rs.map TokR.cells++[tokCells 0 s.size ⟨#[]⟩ 0])=(Sum.inr ts:LexOut):=h
  refine⟨rs,?_,hr⟩
  have:=Sum.inr.inj h'
  rw[←this]
  simp[TokR.cells]
 |succ b ih=>
  intro i rs ts hi hr h
  by_cases hlt:i<s.size
  ·cases hb:blankN (bat s i)
   ·by_cases h35:bat s i=35
    ·rw[lex_rem hlt h35] at h
     have h1:=runEnd_le remN s i hi
     exact ih _ rs ts h1 hr h
    ·by_cases he:(one s i).err=0
     ·rw[lex_tok hlt hb h35 he] at h
      have h1:=one_stop hlt he
      have h2:=hP i hlt he
      refine ih (one s i).stop (rs++[⟨(one s i).kind,i,oneText s i (one s i),(one s i).n⟩]) ts h1.2 ?_ (by simpa[TokR.cells,oneCells] using h)
      intro r hm
      rcases List.mem_append.1 hm with hm|hm
      ·exact hr r hm
      ·obtain rfl:r=_:=by simpa using hm
       exact h2
     ·rw[lex_bad hlt hb h35 he] at h
      exact absurd h (by simp)
   ·rw[lex_blank hlt hb] at h
    exact ih _ rs ts (by omega) hr h
  ·rw[lex_end hlt] at h
   refine⟨rs,?_,hr⟩
   have:=Sum.inr.inj h
   rw[←this]
   simp[TokR.cells]
namespace Pj
def hdN (s:ByteArray):Nat:=match s.data.toList with
 |[]=>0
 |b::_=>b.toNat
theorem hdN_eq {x y:ByteArray} (h:x.toList=y.toList):hdN x=hdN y:=by
 rw[Lib.toList_data,Lib.toList_data] at h
 unfold hdN
 rw[h]
theorem hdN_extract {s:ByteArray} {i e:Nat} (hi:i<s.size) (he:i<e):hdN (s.extract i e)=bat s i:=by
 have hsz:0<(s.extract i e).size:=by simp;omega
 have h0:(s.extract i e).data.toList=(s.extract i e).data.toList:=rfl
 unfold hdN
 cases h:(s.extract i e).data.toList with
 |nil=>
  have:=data_len (s.extract i e)
  rw[h] at this
  simp at this
  omega
 |cons b l=>
  have h1:(s.extract i e).data.toList[0]? =some b:=by rw[h];rfl
  have h2:(s.extract i e)[0]'hsz=s[i]'hi:=by
   rw[ByteArray.getElem_extract]
   simp
  have h3:(s.extract i e).data.toList[0]? =some ((s.extract i e)[0]'hsz):=by
   rw[List.getElem?_eq_getElem (by rw[data_len];exact hsz)]
   rfl
  rw[h3] at h1
  have h4:=Option.some.inj h1
  rw[bat_eq hi,←h2,h4]
def TokR.cl (r:TokR):Prop:=((r.kind=5∧∀s∈askW,r.text.toList≠s.toList)∨r.kind=3)∨∀s∈askS,r.text.toList≠s.toList
theorem askS_hd:∀s∈askS,(hdN s≠0∧hdN s≠39)∧(letN (hdN s)=true→(wordsB.any fun b=>s.data.toList==b.data.toList)=true):=by decide
theorem isWord_data (l:List UInt8):isWord l=wordsB.any fun b=>l==b.data.toList:=by
 unfold isWord
 simp only[Lib.toList_data]
theorem askW_hd:∀s∈askW,letN (hdN s)=true:=by decide
theorem cl_empty {k p n:Nat}:TokR.cl ⟨k,p,⟨#[]⟩,n⟩:=.inr fun s hs e=>(askS_hd s hs).1.1 (hdN_eq e).symm
theorem one_cl {s:ByteArray} {i:Nat} (hi:i<s.size) (he:(one s i).err=0):TokR.cl ⟨(one s i).kind,i,oneText s i (one s i),(one s i).n⟩:=by
 have hstop:=one_stop hi he
 by_cases h1:digN (bat s i)=true
 ·have hk:(one s i).kind=1:=by
   unfold one at he⊢
   rw[if_pos h1] at he⊢
   split at he<;>simp_all
  rw[show oneText s i (one s i)=⟨#[]⟩ from if_pos hk]
  exact cl_empty
 ·have hk1:(one s i).kind≠1:=by
   unfold one
   rw[if_neg h1]
   split
   ·split
    ·simp
    ·split<;>simp
   ·split
    ·split<;>simp
    ·split<;>simp
  have ht:oneText s i (one s i)=s.extract i (one s i).stop:=if_neg hk1
  have hh:hdN (oneText s i (one s i))=bat s i:=by rw[ht];exact hdN_extract hi hstop.1
  by_cases h2:letN (bat s i)=true
  ·by_cases h3:isWord (s.extract i (runEnd namN s i)).toList=true
   ·exact .inl (.inr (by show(one s i).kind=3;unfold one;rw[if_neg h1,if_pos h2,if_pos h3]))
   ·refine .inr fun x hx e=>h3 ?_
    have e1:(oneText s i (one s i)).toList=x.toList:=e
    have e2:=hdN_eq e1
    rw[hh] at e2
    have e3:=(askS_hd x hx).2 (by rw[←e2];exact h2)
    have e4:(one s i).stop=runEnd namN s i:=by
     unfold one at he⊢
     rw[if_neg h1,if_pos h2,if_neg h3] at he⊢
     split at he
     ·simp at he
     ·rename_i h5
      rw[if_neg h5]
    rw[ht,e4] at e1
    rw[e1,Lib.toList_data,isWord_data]
    exact e3
  ·by_cases h3:(bat s i==39&&letN (bat s (i+1)))=true
   ·refine .inr fun x hx e=>(askS_hd x hx).1.2 ?_
    have e2:hdN (oneText s i (one s i))=hdN x:=hdN_eq e
    rw[hh] at e2
    have:bat s i=39:=by simp at h3;exact h3.1
    omega
   ·refine .inl (.inl ⟨?_,fun x hx e=>h2 ?_⟩)
    ·show(one s i).kind=5
     unfold one at he⊢
     rw[if_neg h1,if_neg h2,if_neg h3] at he⊢
     split at he
     ·simp at he
     ·rename_i h5
      rw[if_neg h5]
    ·have e2:hdN (oneText s i (one s i))=hdN x:=hdN_eq e
     rw[hh] at e2
     rw[e2]
     exact askW_hd x hx
theorem lex_clean {s:ByteArray} {ts:List (List Value)} (hl:lexAll s=.inr ts):Clean (tkv ts):=by
 have hl':lexFrom s.size s 0 (([]:List TokR).map TokR.cells)=.inr ts:=by
  unfold lexAll at hl
  split at hl
  ·simp at hl
  ·exact hl
 obtain⟨rs',e,hok⟩:=lex_each (P:=TokR.cl) (fun i hi he=>one_cl hi he) s.size 0 [] ts (Nat.zero_le _) (fun r hr=>by cases hr) hl'
 rw[e,tkv_of]
 intro j
 show TokR.cl _
 cases h:(rs'++[(⟨0,s.size,⟨#[]⟩,0⟩:TokR)])[j]? with
 |none=>exact cl_empty
 |some r=>
  rcases List.mem_append.1 (List.mem_of_getElem? h) with hr|hr
  ·exact hok r hr
  ·obtain rfl:r=_:=by simpa using hr
   exact cl_empty
end Pj
end Go.Proofs.YtdplogkmkgekdaaGreatDoor
namespace Go.Proofs.YtdplogkmkgekdaaGreatDoor.Pj
open Go.RowKit
def DeepB (w:World) (y:List Nr) (d:Int) (e:Ending) (w':World):Prop:=∃(r:Int) (b:Bool),e=.returned (.tuple #[.int .i64 r,.bool b])∧Below w.heap.size w w'∧(b=false∧Dp [y] d none∨b=true∧Dp [y] d (some r))
theorem deepP {g:Prop}:(h:Nat)→∀{S:Nat→Prop} {w:World} {kind pos n m:Int} {name:ByteArray} {ko:Option Addr} {kl kc:Nat},isNode S g h w (nodeC kind pos n m name (.slice ko kl kc)).toList→∀{y:List Nr},Fl w [(nodeC kind pos n m name (.slice ko kl kc)).toList] [y]→∀d:Int,0≤d→d≤100→Calls Tryz.prog 15 #[.agg (nodeC kind pos n m name (.slice ko kl kc)),.int .i64 d] w (DeepB w y d)
 |0,_,_,_,_,_,_,_,_,_,_,hn,_,_=>absurd hn (fun x=>x)
 |h+1,S,w,kind,pos,n,m,name,ko,kl,kc,hn,y,hy=>by
  intro d hd0 hd
  obtain⟨FF,hyF,hFl,hp,hkl,hkid⟩:=hn.kidF hy
  have HYF:Hid (y=nd kind pos n m name FF∧FF.length=kl):=⟨hyF,hFl⟩
  clear hyF hFl hy
  have IH:Hid (∀{S:Nat→Prop} {w:World} {kind pos n m:Int} {name:ByteArray} {ko:Option Addr} {kl kc:Nat},isNode S g h w (nodeC kind pos n m name (.slice ko kl kc)).toList→∀{y:List Nr},Fl w [(nodeC kind pos n m name (.slice ko kl kc)).toList] [y]→∀d:Int,0≤d→d≤100→Calls Tryz.prog 15 #[.agg (nodeC kind pos n m name (.slice ko kl kc)),.int .i64 d] w (DeepB w y d)):=deepP h
  have HK:Hid (∀idx,idx<kl→∃gb,ko=some ⟨gb,0,none⟩∧S gb∧gb<w.heap.size∧∃kind pos n m name ko kl kc,isNode S g h w (nodeC kind pos n m name (.slice ko kl kc)).toList∧(∀o,o<11→w.cell? ⟨gb,idx*11+o,none⟩=(nodeC kind pos n m name (.slice ko kl kc))[o]?)∧∃y2,FF[idx]? =some y2∧Fl w [(nodeC kind pos n m name (.slice ko kl kc)).toList] [y2]):=hkid
  clear hkid hn
  by_cases h80:80<d
  ·go_enter Tryz.func15,Tryz.ntmps15
   go_wp2_with fail
   exact bodyPost_ret (v:=.tuple #[.int .i64 pos,.bool true]) (by simp[results,Tryz.results15,go_sem]) rfl ⟨pos,true,rfl,(Below.refl _ _).alloc (Nat.le_refl _) _,.inr ⟨rfl,by rw[HYF.out.1];exact Dp.deep h80⟩⟩
  ·have h80':decide (80<d)=false:=by simpa using h80
   go_enter Tryz.func15,Tryz.ntmps15
   go_wp2_with fail
   go_loopg [7,8,9,17] kl (fun gg _ _ _ u wr=>∃idx:Nat,gg=kl - idx∧u=.int .i64 idx∧idx≤kl∧Below w.heap.size w wr∧Hid (Dp (FF.take idx) (d+1) none))
   case atStart=>exact⟨0,rfl,rfl,Nat.zero_le _,(Below.refl _ _).alloc (Nat.le_refl _) _,Dp.nil⟩
   case round=>
    obtain⟨idx,hgk,rfl,hidx,hb,HD⟩:=hrel
    have HG:Hid (gk=kl - idx):=hgk
    clear hgk
    by_cases hlt:idx<kl
    ·obtain⟨gb,rfl,hS,hgb,kind2,pos2,n2,m2,name2,ko2,kl2,kc2,hk2,hcell,y2,hy2,hfl2⟩:=HK.out idx hlt
     have HY2:Hid (FF[idx]? =some y2):=hy2
     clear hy2
     have hltI:(idx:Int)<(kl:Int):=by omega
     have hbs:=hb.size
     have hgr:gb<wr.heap.size:=by omega
     have ec:∀o,o<11→wr.cell? ⟨gb,idx*11+o,none⟩=(nodeC kind2 pos2 n2 m2 name2 (.slice ko2 kl2 kc2))[o]? :=fun o ho=>(hb.cell (p:=⟨gb,idx*11+o,none⟩) hgb).trans (hcell o ho)
     clear hcell
     have e0:=ec 0 (by decide)
     have e1:=ec 1 (by decide)
     have e2:=ec 2 (by decide)
     have e3:=ec 3 (by decide)
     have e4:=ec 4 (by decide)
     have e5:=ec 5 (by decide)
     have e6:=ec 6 (by decide)
     have e7:=ec 7 (by decide)
     have e8:=ec 8 (by decide)
     have e9:=ec 9 (by decide)
     have e10:=ec 10 (by decide)
     clear ec
     simp only[Nat.add_zero] at e0
     have hk3:isNode (fun b=>S b∧b<w.heap.size) g h (wr.alloc (.cells (nodeC kind2 pos2 n2 m2 name2 (.slice ko2 kl2 kc2)) 28)) (nodeC kind2 pos2 n2 m2 name2 (.slice ko2 kl2 kc2)).toList:=isNode.frame (Same.alloc _ _ _) _ _ (isNode.frame (fun b hb' _=>hb.block b hb'.2) _ _ (isNode.low _ _ hk2))
     have hfl3:Fl (wr.alloc (.cells (nodeC kind2 pos2 n2 m2 name2 (.slice ko2 kl2 kc2)) 28)) [(nodeC kind2 pos2 n2 m2 name2 (.slice ko2 kl2 kc2)).toList] [y2]:=hfl2.cong (fun f=>by simp only[List.map_cons,List.map_nil];rw[flat_frame (S:=fun b=>S b∧b<w.heap.size) (Same.alloc _ _ _) h _ (isNode.frame (fun b hb' _=>hb.block b hb'.2) _ _ (isNode.low _ _ hk2)) f,flat_frame (S:=fun b=>S b∧b<w.heap.size) (fun b hb' _=>hb.block b hb'.2) h _ (isNode.low _ _ hk2) f])
     have hsnoc:FF.take (idx+1)=FF.take idx++[y2]:=by rw[List.take_add_one,HY2.out];rfl
     have HSN:Hid (FF.take (idx+1)=FF.take idx++[y2]):=hsnoc
     clear hsnoc hfl2
     go_wp2_with fail
     refine(IH.out hk3 hfl3 _ (by omega) (by omega)).mono ?_
     rintro e w2 ⟨r,b,rfl,hb2,hD2⟩
     have HD2:Hid (b=false∧Dp [y2] (d+1) none∨b=true∧Dp [y2] (d+1) (some r)):=hD2
     clear hD2
     have hb3:Below w.heap.size w w2:=(hb.alloc hb.size _).trans (hb2.mono (by simp;omega))
     cases b
     ·go_wp2_with fail
      go_roundg (kl - (idx+1))
      case measure=>rw[HG.out];omega
      case rel=>exact⟨idx+1,rfl,by go_num,hlt,hb3,by
       show Dp _ _ _
       rw[HSN.out]
       rcases HD2.out with h1|h1
       ·exact HD.out.app h1.2
       ·exact absurd h1.1 (by decide)⟩
     ·go_wp2_with fail
      exact bodyPost_ret (v:=.tuple #[.int .i64 r,.bool true]) (by simp[results,Tryz.results15,go_sem]) rfl ⟨r,true,rfl,hb3,.inr ⟨rfl,by
       have h1:Dp [y2] (d+1) (some r):=by
        rcases HD2.out with h1|h1
        ·exact absurd h1.1 (by decide)
        ·exact h1.2
       have h2:Dp (FF.take (idx+1)) (d+1) (some r):=by rw[HSN.out];exact HD.out.app h1
       have h3:Dp FF (d+1) (some r):=by rw[←List.take_append_drop (idx+1) FF];exact h2.more
       rw[HYF.out.1]
       exact Dp.node (by omega) h3⟩⟩
    ·have hltI:¬(idx:Int)<(kl:Int):=by omega
     have hltD:decide ((idx:Int)<(kl:Int))=false:=by simpa using hltI
     go_wp2_with fail
     exact bodyPost_ret (v:=.tuple #[.int .i64 0,.bool false]) (by simp[results,Tryz.results15,go_sem]) rfl ⟨0,false,rfl,hb,.inl ⟨rfl,by
      have h1:FF.take idx=FF:=List.take_of_length_le (by have:=HYF.out.2;omega)
      have h2:=HD.out
      rw[h1] at h2
      rw[HYF.out.1]
      exact Dp.node (by omega) h2⟩⟩
end Go.Proofs.YtdplogkmkgekdaaGreatDoor.Pj
