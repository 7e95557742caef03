/- Rows in which lifetimes come first: their state. -/
import Derived.Test.YtdplogkmkgekdaaGreatDoorPla
import Derived.Test.YtdplogkmkgekdaaGreatDoorPkb
set_option linter.all false
set_option maxRecDepth 100000
set_option maxHeartbeats 4000000
namespace Go.Proofs.YtdplogkmkgekdaaGreatDoor.Pj
open Go.RowKit
section
variable {w:World} {rb tb i:Nat} {cap:Cp} {t:Tk}
def jV (t:Tk) (E:GP (List Nr)) (p nn n2 m:Int) (s:ByteArray) (V:List (List Nr)):GP (List Nr):=bnd (aY t ⟨#[61]⟩) (fun b=>cond b (bnd E (fun z=>seq (aM t ⟨#[59]⟩) (ret (nd 43 p n2 m s (V++[z]))))) (seq (aM t ⟨#[59]⟩) (ret (nd 43 p nn m s V))))
theorem adR {N:Nat} (hT:bH 70 N (fun t n=>gG t n 0)) (hE:bH 81 N (fun t n=>gG t n 1)) {w:World} {rb tb i:Nat} {cap:Cp} {t:Tk} (h:Rd w rb tb cap t i 0 0) (hN:t.len - i≤N+1) (hm:au t (i+1) 0 0 ⟨#[109,117,116]⟩=true) (hb:au t i 0 0 ⟨#[108,101,116]⟩=true):
 Calls Tryz.prog 198 #[.pointer (some ⟨rb,0,none⟩)] w (aP w rb tb cap t i True (fun n=>eF t (gG t n 0) (gG t n 1))):=by
 have hl:=h.l
 have aL:=h.eP
 have HB:=aD hb
 clear hb
 have HM:=aD hm
 clear hm
 have hb:=HB.out
 go_enter Tryz.func198,Tryz.ntmps198
 have q:=Mf.start h
 go_wp2_with fail
 refine(q.ne' (sz w) (aJ)).lf (dx · 43) ?_
 clear q
 intro w1 q
 have F:=q.f1
 go_wp2_with fail
 refine(q.ne' (sz w1) (nk 43 (t.pos i) nl)).wy (dw · _ (ask)) HB.out ?_
 clear q F
 intro w2 q
 have F:=q.f2
 go_wp2_with fail
 refine q.et (cO · _ (ask)) ?_
 clear q F
 intro w3 b3 i3 eu m3 q
 have F:=q.f2
 obtain rfl:b3=true:=eu.jE.trans HM.out
 go_wp2_with fail
 refine(q.Cn 1).nm (kD ·) (fun w' p hk hw=>⟨rfl,.inr ((q.Cn 1).aR hk (by unfold eF;unfold jC;exact wrt))⟩) ?_
 clear q F
 intro w4 s4 i4 hs4 hl4 m4 q
 have F:=q.f2
 go_wp2_with fail
 refine(q.jm s4).et (cO · _ (ask)) ?_
 clear q F
 intro w5 b5 i5 Aa m5 q
 have F:=q.f2
 go_upto_if 15 with fail
 go_cut [] (fun wx=>∃(nn n2:Int) (v:Value) (vs:List (List Value)) (V:List (List Nr)) (j:Nat),((nn=0∧n2=2)∨(nn=1∧n2=3))∧Hid (vs.length≤1)∧Hid ((∀r,Ev (fun n=>jV t (gG t n 1) (t.pos i) nn n2 1 s4 V) ⟨j,0,0⟩ r→Ev (fun n=>eF t (gG t n 0) (gG t n 1)) ⟨i,0,0⟩ r)∧∀p,Wr (fun n=>jV t (gG t n 1) (t.pos i) nn n2 1 s4 V) ⟨j,0,0⟩ p→Wr (fun n=>eF t (gG t n 0) (gG t n 1)) ⟨i,0,0⟩ p)∧Mf w rb tb cap t i True wx j [(sz w1,ah 43 (t.pos i) nn 1 s4 v),(sz w,aJ)] [] v vs [] V)
 case first=>
  cases b5
  ·go_wp2_with fail
   go_meet
   exact⟨0,2,nl,[],[],i5,.inl ⟨rfl,rfl⟩,Nat.zero_le _,⟨fun r hr=>Ev.ak bL (Ev.seq (bP HB.out) (Ev.ak (Ev.ak m3 (Ev.yes rfl Ev.ret')) (Ev.ak m4 (Ev.ak m5 (Ev.no rfl hr))))),fun p hp=>Wr.snd bL (Wr.o8 (bP HB.out) (Wr.snd (Ev.ak m3 (Ev.yes rfl Ev.ret')) (Wr.snd m4 (Wr.snd m5 (Wr.no rfl hp)))))⟩,q⟩
  ·have PE:Hid (∀p,Wr (fun n=>gG t n 0) ⟨i5,0,0⟩ p→Wr (fun n=>eF t (gG t n 0) (gG t n 1)) ⟨i,0,0⟩ p):=fun p hw=>Wr.snd bL (Wr.o8 (bP HB.out) (Wr.snd (Ev.ak m3 (Ev.yes rfl Ev.ret')) (Wr.snd m4 (Wr.snd m5 (Wr.yes rfl (Wr.fst hw (fun _ _=>aA)))))))
   go_wp2_with fail
   go_region_law (first|(refine q.as (sz w6) (by simp) ?_;clear q F;intro w7 mh mo q;have F:=q.f2)|(replace q:=(q.pV 1).drew;go_simp;refine q.nd (fun hr=>hT hr (by have:=hr.lt;have:=q.go trivial;omega)) (fun w' p hk hw=>⟨rfl,.inr (q.aR hk (PE.out _ hw))⟩) ?_;clear q F;intro w6 x6 i6 y6 mq m6 q;have F:=q.f2))
   all_goals
    go_wp2_with fail
    go_meet
    exact⟨1,3,_,_,[y6],i6,.inr ⟨rfl,rfl⟩,(by show _≤1;simp),⟨fun r hr=>Ev.ak bL (Ev.seq (bP HB.out) (Ev.ak (Ev.ak m3 (Ev.yes rfl Ev.ret')) (Ev.ak m4 (Ev.ak m5 (Ev.yes rfl (Ev.ak m6 hr)))))),fun p hp=>Wr.snd bL (Wr.o8 (bP HB.out) (Wr.snd (Ev.ak m3 (Ev.yes rfl Ev.ret')) (Wr.snd m4 (Wr.snd m5 (Wr.yes rfl (Wr.snd m6 hp))))))⟩,q.fE (.slice mh (0+1) mo)⟩
 case rest=>
  clear F q
  obtain⟨nn,n2,v,vs,V,j,hnn,qz,HC,q⟩:=hcut
  obtain⟨w7,hw⟩:∃x,x=wc:=⟨_,rfl⟩
  subst hw
  obtain⟨Ay,Az,rfl⟩:=q.shape
  have F:=q.f2
  rcases hnn with⟨rfl,rfl⟩|⟨rfl,rfl⟩
  ·go_wp2_with fail
   refine q.et (cO · _ (ask)) ?_
   clear q F
   intro w8 b8 i8 Jd m8 q
   have F:=q.f2
   go_wp2_with fail
   ·have uo:b8=true:= ‹_›
    subst uo
    have Je:Hid (∀p,Wr (fun n=>gG t n 1) ⟨i8,0,0⟩ p→Wr (fun n=>eF t (gG t n 0) (gG t n 1)) ⟨i,0,0⟩ p):=fun p hw=>HC.out.2 _ (by unfold jV;exact Wr.snd m8 (Wr.yes rfl (Wr.fst hw (fun _ _=>aA))))
    go_wp2_with fail
    go_region_law (first|(refine q.as (sz w9) (Nat.le_trans qz.out (by decide)) ?_;clear q F;intro I7 vN vO q;have F:=q.f2)|(replace q:=(q.pV 2).drew;go_simp;refine q.nd (fun hr=>hE hr (by have:=hr.lt;have:=q.go trivial;omega)) (fun w' p hk hw=>⟨rfl,.inr (q.aR hk (Je.out _ hw))⟩) ?_;clear q F;intro w9 x9 i9 y9 Cr m9 q;have F:=q.f2))
    all_goals
     go_wp2_with fail
     refine(q.fE (.slice vN (vs.length+1) vO)).wn (dw · _ (ask)) (fun w' hk hw=>⟨rfl,.inr ((q.fE (.slice vN (vs.length+1) vO)).aR hk (HC.out.2 _ (by unfold jV;exact Wr.snd m8 (Wr.yes rfl (Wr.snd m9 (Wr.sq hw (fun _=>Sy.ret)))))))⟩) ?_
     clear q F
     intro w11 m11 q
     have F:=q.f2
     go_wp2_with fail
     go_light
     exact Mf.rt (q.fo 43 (t.pos i) 2 1 s4 (by have:=qz.out;simp;omega) aL hs4) Tryz.results198 1 (HC.out.1 _ (by unfold jV;exact Ev.ak m8 (Ev.yes rfl (Ev.ak m9 (Ev.seq m11 Ev.ret')))))
   ·have uo:b8=false:= ‹_›
    subst uo
    go_wp2_with fail
    refine q.wn (dw · _ (ask)) (fun w' hk hw=>⟨rfl,.inr (q.aR hk (HC.out.2 _ (by unfold jV;exact Wr.snd m8 (Wr.no rfl (Wr.sq hw (fun _=>Sy.ret))))))⟩) ?_
    clear q F
    intro w12 m11 q
    have F:=q.f2
    go_wp2_with fail
    go_light
    exact Mf.rt (q.fo 43 (t.pos i) 0 1 s4 (Nat.le_trans qz.out (by decide)) aL hs4) Tryz.results198 1 (HC.out.1 _ (by unfold jV;exact Ev.ak m8 (Ev.no rfl (Ev.seq m11 Ev.ret'))))
  ·go_wp2_with fail
   refine q.et (cO · _ (ask)) ?_
   clear q F
   intro w8 b8 i8 Jd m8 q
   have F:=q.f2
   go_wp2_with fail
   ·have uo:b8=true:= ‹_›
    subst uo
    have Je:Hid (∀p,Wr (fun n=>gG t n 1) ⟨i8,0,0⟩ p→Wr (fun n=>eF t (gG t n 0) (gG t n 1)) ⟨i,0,0⟩ p):=fun p hw=>HC.out.2 _ (by unfold jV;exact Wr.snd m8 (Wr.yes rfl (Wr.fst hw (fun _ _=>aA))))
    go_wp2_with fail
    go_region_law (first|(refine q.as (sz w9) (Nat.le_trans qz.out (by decide)) ?_;clear q F;intro I7 vN vO q;have F:=q.f2)|(replace q:=(q.pV 3).drew;go_simp;refine q.nd (fun hr=>hE hr (by have:=hr.lt;have:=q.go trivial;omega)) (fun w' p hk hw=>⟨rfl,.inr (q.aR hk (Je.out _ hw))⟩) ?_;clear q F;intro w9 x9 i9 y9 Cr m9 q;have F:=q.f2))
    all_goals
     go_wp2_with fail
     refine(q.fE (.slice vN (vs.length+1) vO)).wn (dw · _ (ask)) (fun w' hk hw=>⟨rfl,.inr ((q.fE (.slice vN (vs.length+1) vO)).aR hk (HC.out.2 _ (by unfold jV;exact Wr.snd m8 (Wr.yes rfl (Wr.snd m9 (Wr.sq hw (fun _=>Sy.ret)))))))⟩) ?_
     clear q F
     intro w11 m11 q
     have F:=q.f2
     go_wp2_with fail
     go_light
     exact Mf.rt (q.fo 43 (t.pos i) 3 1 s4 (by have:=qz.out;simp;omega) aL hs4) Tryz.results198 1 (HC.out.1 _ (by unfold jV;exact Ev.ak m8 (Ev.yes rfl (Ev.ak m9 (Ev.seq m11 Ev.ret')))))
   ·have uo:b8=false:= ‹_›
    subst uo
    go_wp2_with fail
    refine q.wn (dw · _ (ask)) (fun w' hk hw=>⟨rfl,.inr (q.aR hk (HC.out.2 _ (by unfold jV;exact Wr.snd m8 (Wr.no rfl (Wr.sq hw (fun _=>Sy.ret))))))⟩) ?_
    clear q F
    intro w12 m11 q
    have F:=q.f2
    go_wp2_with fail
    go_light
    exact Mf.rt (q.fo 43 (t.pos i) 1 1 s4 (Nat.le_trans qz.out (by decide)) aL hs4) Tryz.results198 1 (HC.out.1 _ (by unfold jV;exact Ev.ak m8 (Ev.no rfl (Ev.seq m11 Ev.ret'))))
theorem adS {N:Nat} (hT:bH 70 N (fun t n=>gG t n 0)) (hE:bH 81 N (fun t n=>gG t n 1)) {w:World} {rb tb i:Nat} {cap:Cp} {t:Tk} (h:Rd w rb tb cap t i 0 0) (hN:t.len - i≤N+1) (hm:au t (i+1) 0 0 ⟨#[109,117,116]⟩=false) (hb:au t i 0 0 ⟨#[108,101,116]⟩=true):
 Calls Tryz.prog 198 #[.pointer (some ⟨rb,0,none⟩)] w (aP w rb tb cap t i True (fun n=>eF t (gG t n 0) (gG t n 1))):=by
 have hl:=h.l
 have aL:=h.eP
 have HB:=aD hb
 clear hb
 have HM:=aD hm
 clear hm
 have hb:=HB.out
 go_enter Tryz.func198,Tryz.ntmps198
 have q:=Mf.start h
 go_wp2_with fail
 refine(q.ne' (sz w) (aJ)).lf (dx · 43) ?_
 clear q
 intro w1 q
 have F:=q.f1
 go_wp2_with fail
 refine(q.ne' (sz w1) (nk 43 (t.pos i) nl)).wy (dw · _ (ask)) HB.out ?_
 clear q F
 intro w2 q
 have F:=q.f2
 go_wp2_with fail
 refine q.et (cO · _ (ask)) ?_
 clear q F
 intro w3 b3 i3 eu m3 q
 have F:=q.f2
 obtain rfl:b3=false:=eu.jE.trans HM.out
 go_wp2_with fail
 refine q.nm (kD ·) (fun w' p hk hw=>⟨rfl,.inr (q.aR hk (by unfold eF;unfold jC;exact wrt))⟩) ?_
 clear q F
 intro w4 s4 i4 hs4 hl4 m4 q
 have F:=q.f2
 go_wp2_with fail
 refine(q.jm s4).et (cO · _ (ask)) ?_
 clear q F
 intro w5 b5 i5 Aa m5 q
 have F:=q.f2
 go_upto_if 15 with fail
 go_cut [] (fun wx=>∃(nn n2:Int) (v:Value) (vs:List (List Value)) (V:List (List Nr)) (j:Nat),((nn=0∧n2=2)∨(nn=1∧n2=3))∧Hid (vs.length≤1)∧Hid ((∀r,Ev (fun n=>jV t (gG t n 1) (t.pos i) nn n2 0 s4 V) ⟨j,0,0⟩ r→Ev (fun n=>eF t (gG t n 0) (gG t n 1)) ⟨i,0,0⟩ r)∧∀p,Wr (fun n=>jV t (gG t n 1) (t.pos i) nn n2 0 s4 V) ⟨j,0,0⟩ p→Wr (fun n=>eF t (gG t n 0) (gG t n 1)) ⟨i,0,0⟩ p)∧Mf w rb tb cap t i True wx j [(sz w1,ah 43 (t.pos i) nn 0 s4 v),(sz w,aJ)] [] v vs [] V)
 case first=>
  cases b5
  ·go_wp2_with fail
   go_meet
   exact⟨0,2,nl,[],[],i5,.inl ⟨rfl,rfl⟩,Nat.zero_le _,⟨fun r hr=>Ev.ak bL (Ev.seq (bP HB.out) (Ev.ak (Ev.ak m3 (Ev.no rfl Ev.ret')) (Ev.ak m4 (Ev.ak m5 (Ev.no rfl hr))))),fun p hp=>Wr.snd bL (Wr.o8 (bP HB.out) (Wr.snd (Ev.ak m3 (Ev.no rfl Ev.ret')) (Wr.snd m4 (Wr.snd m5 (Wr.no rfl hp)))))⟩,q⟩
  ·have PE:Hid (∀p,Wr (fun n=>gG t n 0) ⟨i5,0,0⟩ p→Wr (fun n=>eF t (gG t n 0) (gG t n 1)) ⟨i,0,0⟩ p):=fun p hw=>Wr.snd bL (Wr.o8 (bP HB.out) (Wr.snd (Ev.ak m3 (Ev.no rfl Ev.ret')) (Wr.snd m4 (Wr.snd m5 (Wr.yes rfl (Wr.fst hw (fun _ _=>aA)))))))
   go_wp2_with fail
   go_region_law (first|(refine q.as (sz w6) (by simp) ?_;clear q F;intro w7 mh mo q;have F:=q.f2)|(replace q:=(q.pV 1).drew;go_simp;refine q.nd (fun hr=>hT hr (by have:=hr.lt;have:=q.go trivial;omega)) (fun w' p hk hw=>⟨rfl,.inr (q.aR hk (PE.out _ hw))⟩) ?_;clear q F;intro w6 x6 i6 y6 mq m6 q;have F:=q.f2))
   all_goals
    go_wp2_with fail
    go_meet
    exact⟨1,3,_,_,[y6],i6,.inr ⟨rfl,rfl⟩,(by show _≤1;simp),⟨fun r hr=>Ev.ak bL (Ev.seq (bP HB.out) (Ev.ak (Ev.ak m3 (Ev.no rfl Ev.ret')) (Ev.ak m4 (Ev.ak m5 (Ev.yes rfl (Ev.ak m6 hr)))))),fun p hp=>Wr.snd bL (Wr.o8 (bP HB.out) (Wr.snd (Ev.ak m3 (Ev.no rfl Ev.ret')) (Wr.snd m4 (Wr.snd m5 (Wr.yes rfl (Wr.snd m6 hp))))))⟩,q.fE (.slice mh (0+1) mo)⟩
 case rest=>
  clear F q
  obtain⟨nn,n2,v,vs,V,j,hnn,qz,HC,q⟩:=hcut
  obtain⟨w7,hw⟩:∃x,x=wc:=⟨_,rfl⟩
  subst hw
  obtain⟨Ay,Az,rfl⟩:=q.shape
  have F:=q.f2
  rcases hnn with⟨rfl,rfl⟩|⟨rfl,rfl⟩
  ·go_wp2_with fail
   refine q.et (cO · _ (ask)) ?_
   clear q F
   intro w8 b8 i8 Jd m8 q
   have F:=q.f2
   go_wp2_with fail
   ·have uo:b8=true:= ‹_›
    subst uo
    have Je:Hid (∀p,Wr (fun n=>gG t n 1) ⟨i8,0,0⟩ p→Wr (fun n=>eF t (gG t n 0) (gG t n 1)) ⟨i,0,0⟩ p):=fun p hw=>HC.out.2 _ (by unfold jV;exact Wr.snd m8 (Wr.yes rfl (Wr.fst hw (fun _ _=>aA))))
    go_wp2_with fail
    go_region_law (first|(refine q.as (sz w9) (Nat.le_trans qz.out (by decide)) ?_;clear q F;intro I7 vN vO q;have F:=q.f2)|(replace q:=(q.pV 2).drew;go_simp;refine q.nd (fun hr=>hE hr (by have:=hr.lt;have:=q.go trivial;omega)) (fun w' p hk hw=>⟨rfl,.inr (q.aR hk (Je.out _ hw))⟩) ?_;clear q F;intro w9 x9 i9 y9 Cr m9 q;have F:=q.f2))
    all_goals
     go_wp2_with fail
     refine(q.fE (.slice vN (vs.length+1) vO)).wn (dw · _ (ask)) (fun w' hk hw=>⟨rfl,.inr ((q.fE (.slice vN (vs.length+1) vO)).aR hk (HC.out.2 _ (by unfold jV;exact Wr.snd m8 (Wr.yes rfl (Wr.snd m9 (Wr.sq hw (fun _=>Sy.ret)))))))⟩) ?_
     clear q F
     intro w11 m11 q
     have F:=q.f2
     go_wp2_with fail
     go_light
     exact Mf.rt (q.fo 43 (t.pos i) 2 0 s4 (by have:=qz.out;simp;omega) aL hs4) Tryz.results198 1 (HC.out.1 _ (by unfold jV;exact Ev.ak m8 (Ev.yes rfl (Ev.ak m9 (Ev.seq m11 Ev.ret')))))
   ·have uo:b8=false:= ‹_›
    subst uo
    go_wp2_with fail
    refine q.wn (dw · _ (ask)) (fun w' hk hw=>⟨rfl,.inr (q.aR hk (HC.out.2 _ (by unfold jV;exact Wr.snd m8 (Wr.no rfl (Wr.sq hw (fun _=>Sy.ret))))))⟩) ?_
    clear q F
    intro w12 m11 q
    have F:=q.f2
    go_wp2_with fail
    go_light
    exact Mf.rt (q.fo 43 (t.pos i) 0 0 s4 (Nat.le_trans qz.out (by decide)) aL hs4) Tryz.results198 1 (HC.out.1 _ (by unfold jV;exact Ev.ak m8 (Ev.no rfl (Ev.seq m11 Ev.ret'))))
  ·go_wp2_with fail
   refine q.et (cO · _ (ask)) ?_
   clear q F
   intro w8 b8 i8 Jd m8 q
   have F:=q.f2
   go_wp2_with fail
   ·have uo:b8=true:= ‹_›
    subst uo
    have Je:Hid (∀p,Wr (fun n=>gG t n 1) ⟨i8,0,0⟩ p→Wr (fun n=>eF t (gG t n 0) (gG t n 1)) ⟨i,0,0⟩ p):=fun p hw=>HC.out.2 _ (by unfold jV;exact Wr.snd m8 (Wr.yes rfl (Wr.fst hw (fun _ _=>aA))))
    go_wp2_with fail
    go_region_law (first|(refine q.as (sz w9) (Nat.le_trans qz.out (by decide)) ?_;clear q F;intro I7 vN vO q;have F:=q.f2)|(replace q:=(q.pV 3).drew;go_simp;refine q.nd (fun hr=>hE hr (by have:=hr.lt;have:=q.go trivial;omega)) (fun w' p hk hw=>⟨rfl,.inr (q.aR hk (Je.out _ hw))⟩) ?_;clear q F;intro w9 x9 i9 y9 Cr m9 q;have F:=q.f2))
    all_goals
     go_wp2_with fail
     refine(q.fE (.slice vN (vs.length+1) vO)).wn (dw · _ (ask)) (fun w' hk hw=>⟨rfl,.inr ((q.fE (.slice vN (vs.length+1) vO)).aR hk (HC.out.2 _ (by unfold jV;exact Wr.snd m8 (Wr.yes rfl (Wr.snd m9 (Wr.sq hw (fun _=>Sy.ret)))))))⟩) ?_
     clear q F
     intro w11 m11 q
     have F:=q.f2
     go_wp2_with fail
     go_light
     exact Mf.rt (q.fo 43 (t.pos i) 3 0 s4 (by have:=qz.out;simp;omega) aL hs4) Tryz.results198 1 (HC.out.1 _ (by unfold jV;exact Ev.ak m8 (Ev.yes rfl (Ev.ak m9 (Ev.seq m11 Ev.ret')))))
   ·have uo:b8=false:= ‹_›
    subst uo
    go_wp2_with fail
    refine q.wn (dw · _ (ask)) (fun w' hk hw=>⟨rfl,.inr (q.aR hk (HC.out.2 _ (by unfold jV;exact Wr.snd m8 (Wr.no rfl (Wr.sq hw (fun _=>Sy.ret))))))⟩) ?_
    clear q F
    intro w12 m11 q
    have F:=q.f2
    go_wp2_with fail
    go_light
    exact Mf.rt (q.fo 43 (t.pos i) 1 0 s4 (Nat.le_trans qz.out (by decide)) aL hs4) Tryz.results198 1 (HC.out.1 _ (by unfold jV;exact Ev.ak m8 (Ev.no rfl (Ev.seq m11 Ev.ret'))))
end
structure Flip (lb:Nat) (w w':World):Prop where
 os:w'.os=w.os
 tape:w'.tape=w.tape
 output:w'.output=w.output
 size:w'.heap.size=w.heap.size
 block:∀k,k≠lb→w'.heap[k]? =w.heap[k]?
theorem Flip.refl (lb:Nat) (w:World):Flip lb w w:=⟨rfl,rfl,rfl,rfl,fun _ _=>rfl⟩
theorem Flip.set (w:World) (p:Addr) (u:Value):Flip p.block w (w.setCell p u):=⟨rfl,rfl,rfl,by simp[World.setCell],fun k hk=>Below.heap_setCell _ _ _ _ hk⟩
theorem Flip.alloc {lb:Nat} {w w':World} (h:Flip lb w w') (hl:lb<w.heap.size) (o:Obj):Flip lb (w.alloc o) (w'.alloc o):=by
 refine⟨h.os,h.tape,h.output,by simp[h.size],fun k hk=>?_⟩
 show(w'.heap.push o)[k]? =(w.heap.push o)[k]?
 rw[Array.getElem?_push,Array.getElem?_push,h.size,h.block k hk]
theorem Flip.trans {lb:Nat} {a b c:World} (h:Flip lb a b) (k:Flip lb b c):Flip lb a c:=⟨k.os.trans h.os,k.tape.trans h.tape,k.output.trans h.output,k.size.trans h.size,fun i hi=>(k.block i hi).trans (h.block i hi)⟩
theorem Flip.symm {lb:Nat} {a b:World} (h:Flip lb a b):Flip lb b a:=⟨h.os.symm,h.tape.symm,h.output.symm,h.size.symm,fun i hi=>(h.block i hi).symm⟩
theorem Flip.kp {lb rb B:Nat} {w W w' W':World} (h:Kp B rb w W) (f:Flip lb w w') (F:Flip lb W W') (he:lb<B→W'.heap[lb]? =w'.heap[lb]?):Kp B rb w' W':=
 ⟨by rw[F.os,f.os];exact h.os,by rw[F.tape,f.tape];exact h.tape,by rw[F.output,f.output];exact h.output,by rw[F.size,f.size];exact h.size,fun k hk hn=>by
  by_cases e:k=lb
  ·subst e;exact he hk
  ·rw[F.block k e,f.block k e];exact h.block k hk hn⟩
section
variable {w W w' W':World} {rb tb i j lb:Nat} {cap:Cp} {t:Tk} {g:Prop} {L:List (Nat × Array Value)} {T:List (List Value)} {kv:Value} {vs:List (List Value)} {X V:List (List Nr)}
theorem Rd.flip {k a:Int} (h:Rd W rb tb cap t i k a) (F:Flip lb W W') (hl:rb<lb):Rd W' rb tb cap t i k a:=h.same (F.block rb (by omega)) (fun j hj=>F.block j (by have:=h.bl;omega))
theorem Mf.flip (q:Mf w rb tb cap t i g W j L T kv vs X V) (f:Flip lb w w') (F:Flip lb W W') (hl:lb<w.heap.size) (hr:rb<lb) (he:W'.heap[lb]? =w'.heap[lb]?):Mf w' rb tb cap t i g W' j L T kv vs X V:=by
 have hS:∀b,w.heap.size≤b→W'.heap[b]? =W.heap[b]? :=fun b hb=>F.block b (by omega)
 have hs:Same (Out w (L.map oH) kv) W W':=fun b hb _=>hS b hb.1
 have q2:=q.same hs
 obtain⟨⟨⟨h1,h2,h3⟩,le,ok,go,blk,nd,row,qo,h,ha⟩,_,_⟩:=q
 refine⟨⟨⟨h1.flip F hr,by rw[f.size];exact Flip.kp h2 f F (fun _=>he),by rw[f.size];exact h3⟩,le,ok,go,fun n p e=>⟨by rw[f.size];exact(blk n p e).1,(hS _ (blk n p e).1).trans (blk n p e).2⟩,nd,by rw[f.size];exact jY row (fun b hb _=>hS b (row.lt b hb).1),qo,h,fun x hx=>?_⟩,q2.1,q2.2⟩
 exact isNode.weaken (fun b hb=>⟨by rw[f.size];exact hb.1,hb.2⟩) (fun x=>x) _ _ (isNode.frame hs _ _ (ha x hx))
end
abbrev Gg (rb:Nat) (lv ov:Value) (β:Bool):Array Value:=#[.pointer (some ⟨rb,0,none⟩),lv,ov,.bool β]
abbrev yx (w:World) (lb rb:Nat) (lv ov:Value) (β:Bool):Prop:=w.heap[lb]? =some (.cells (Gg rb lv ov β) 134 (0,0))
def tT (t:Tk) (M O:Nat→GP (List Nr)) (β:Bool) (i:Nat) (r:(Bool × List Nr × Nat) ⊕ Int):Prop:=
 (β=false∧bf t i 0 0 4=true∧((∃y j,Ev M ⟨i,0,0⟩ (y,⟨j,0,0⟩)∧r=.inl (false,y,j))∨∃p,Wr M ⟨i,0,0⟩ p∧r=.inr p))∨
 ((β=true∨bf t i 0 0 4=false)∧((∃y j,Ev O ⟨i,0,0⟩ (y,⟨j,0,0⟩)∧r=.inl (true,y,j))∨∃p,Wr O ⟨i,0,0⟩ p∧r=.inr p))
def pR (t:Tk) (M O:Nat→GP (List Nr)) (β:Bool) (j:Nat) (F:List (List Nr)) (r:ru):Prop:=∀P:Bool→Nat→List (List Nr)→ru→Prop,
 (∀{β:Bool} {j:Nat} {F:List (List Nr)},au t j 0 0 ⟨#[44]⟩=false→au t j 0 0 ⟨#[62]⟩=true→P β j F (.inl (F,j+1)))→
 (∀{β:Bool} {j:Nat} {F:List (List Nr)},au t j 0 0 ⟨#[44]⟩=false→au t j 0 0 ⟨#[62]⟩=false→P β j F (.inr (t.pos j)))→
 (∀{β dO:Bool} {j:Nat} {F:List (List Nr)} {y:List Nr} {j2:Nat} {r:ru},au t j 0 0 ⟨#[44]⟩=true→tT t M O β (j+1) (.inl (dO,y,j2))→P dO j2 (F++[y]) r→P β j F r)→
 (∀{β:Bool} {j:Nat} {F:List (List Nr)} {p:Int},au t j 0 0 ⟨#[44]⟩=true→tT t M O β (j+1) (.inr p)→P β j F (.inr p))→P β j F r
section
variable {t:Tk} {M O:Nat→GP (List Nr)}
theorem pR.stop {β:Bool} {j:Nat} {F:List (List Nr)} (h1:au t j 0 0 ⟨#[44]⟩=false) (h2:au t j 0 0 ⟨#[62]⟩=true):pR t M O β j F (.inl (F,j+1)):=fun P c1 c2 c3 c4=>c1 h1 h2
theorem pR.oZ {β:Bool} {j:Nat} {F:List (List Nr)} (h1:au t j 0 0 ⟨#[44]⟩=false) (h2:au t j 0 0 ⟨#[62]⟩=false):pR t M O β j F (.inr (t.pos j)):=fun P c1 c2 c3 c4=>c2 h1 h2
theorem pR.next {β dO:Bool} {j:Nat} {F:List (List Nr)} {y:List Nr} {j2:Nat} {r:ru} (h1:au t j 0 0 ⟨#[44]⟩=true) (h2:tT t M O β (j+1) (.inl (dO,y,j2))) (h3:pR t M O dO j2 (F++[y]) r):pR t M O β j F r:=fun P c1 c2 c3 c4=>c3 h1 h2 (h3 P c1 c2 c3 c4)
theorem pR.aR {β:Bool} {j:Nat} {F:List (List Nr)} {p:Int} (h1:au t j 0 0 ⟨#[44]⟩=true) (h2:tT t M O β (j+1) (.inr p)):pR t M O β j F (.inr p):=fun P c1 c2 c3 c4=>c4 h1 h2
def Jf (t:Tk) (M O:Nat→GP (List Nr)) (i:Nat) (r:ru):Prop:=(∃β y j,tT t M O false i (.inl (β,y,j))∧pR t M O β j [y] r)∨∃p,tT t M O false i (.inr p)∧r=.inr p
end
def Jg (w:World) (rb tb:Nat) (cap:Cp) (t:Tk) (i:Nat) (lb:Nat) (lv ov:Value) (M O:Nat→GP (List Nr)) (β:Bool) (e:Ending) (w':World):Prop:=
 ∃w1 dO,Flip lb w w1∧yx w1 lb rb lv ov dO∧((dO=false∧β=false∧bf t i 0 0 4=true∧aP w1 rb tb cap t i True M e w')∨(dO=true∧(β=true∨bf t i 0 0 4=false)∧aP w1 rb tb cap t i True O e w'))
theorem Jg.cases {w w':World} {rb tb i lb:Nat} {cap:Cp} {t:Tk} {lv ov:Value} {M O:Nat→GP (List Nr)} {β:Bool} {e:Ending} (h:Jg w rb tb cap t i lb lv ov M O β e w'):
 ∃w1 dO,Flip lb w w1∧yx w1 lb rb lv ov dO∧((∃mm,Ht w1 rb tb cap t i True mm e w'∧∀y j,Ev mm ⟨i,0,0⟩ (y,⟨j,0,0⟩)→tT t M O β i (.inl (dO,y,j)))∨∃p:Nat,e=iQ p∧Kp w1.heap.size rb w1 w'∧tT t M O β i (.inr p)):=by
 obtain⟨w1,dO,h1,h2,(⟨h3,h4,h5,h6|⟨p,h6,h7,h8⟩⟩|⟨h3,h4,h6|⟨p,h6,h7,h8⟩⟩)⟩:=h
 ·exact⟨w1,dO,h1,h2,.inl ⟨M,h6,fun y j hy=>.inl ⟨h4,h5,.inl ⟨y,j,hy,by rw[h3]⟩⟩⟩⟩
 ·exact⟨w1,dO,h1,h2,.inr ⟨p,h6,h7,.inl ⟨h4,h5,.inr ⟨p,h8,rfl⟩⟩⟩⟩
 ·exact⟨w1,dO,h1,h2,.inl ⟨O,h6,fun y j hy=>.inr ⟨h4,.inl ⟨y,j,hy,by rw[h3]⟩⟩⟩⟩
 ·exact⟨w1,dO,h1,h2,.inr ⟨p,h6,h7,.inr ⟨h4,.inr ⟨p,h8,rfl⟩⟩⟩⟩
section
variable {wb w W w':World} {rb tb i j lb:Nat} {cap:Cp} {t:Tk} {g:Prop} {L:List (Nat × Array Value)} {T:List (List Value)} {kv:Value} {vs:List (List Value)} {X V:List (List Nr)} {f:Nat} {args:Array Value} {Q:Ending→World→Prop} {lv ov:Value} {M O:Nat→GP (List Nr)}
abbrev nD (w:World) (lb:Nat) (β:Bool):World:=w.setCell ⟨lb,3,none⟩ (.bool β)
theorem wJ {β dO:Bool} (h:yx w lb rb lv ov β):yx (nD w lb dO) lb rb lv ov dO:=by
 show(w.setCell ⟨lb,3,none⟩ (.bool dO)).heap[lb]? =_
 rw[heap_setCell_same _ lb 3 _ 134 _ h]
 rfl
theorem Mf.sl {β:Bool} {ob:Obj} (h0:yx w lb rb lv ov β) (hr:rb<lb) (β1:Bool) (q:Mf ((nD w lb β1).alloc ob) rb tb cap t i g W j L T kv vs X V) (h:Rd W rb tb cap t j 0 0→yx W lb rb lv ov β1→Calls Tryz.prog f args W (Jg W rb tb cap t j lb lv ov M O β1))
 (KB:∀w' p dO,Kp (nD w lb dO).heap.size rb (nD w lb dO) w'→Hid (tT t M O β1 j (.inr (p:Nat)))→Q (iQ p) w') (K:∀w' (x:Nf) i' (y:List Nr) dO,Hid (j<i')→Hid (tT t M O β1 j (.inl (dO,y,i')))→Mf ((nD w lb dO).alloc ob) rb tb cap t i True w' i' L (x.t::T) kv vs (y::X) V→Q (.returned (.agg x.a)) w'):Calls Tryz.prog f args W Q:=by
 have Jh:lb<w.heap.size:=(Array.getElem?_eq_some_iff.1 h0).1
 have hsz:∀β,(nD w lb β).heap.size=w.heap.size:=fun β=>(Flip.set w ⟨lb,3,none⟩ (.bool β)).size
 have hb1:((nD w lb β1).alloc ob).heap[lb]? =some (.cells (Gg rb lv ov β1) 134 (0,0)):=(Below.heap_alloc _ _ _ (by rw[hsz];exact Jh)).trans (wJ h0)
 have hlb:yx W lb rb lv ov β1:=(q.st.kp.block lb (by simp[hsz];omega) (by omega)).trans hb1
 refine(h q.st.rd hlb).mono fun e w' pp=>?_
 obtain⟨w1,dO,h1,h2,h3⟩:=pp.cases
 have fl:Flip lb ((nD w lb β1).alloc ob) ((nD w lb dO).alloc ob):=Flip.alloc ((Flip.set w ⟨lb,3,none⟩ (.bool β1)).symm.trans (Flip.set w ⟨lb,3,none⟩ (.bool dO))) (by rw[hsz];exact Jh) ob
 have hb2:((nD w lb dO).alloc ob).heap[lb]? =some (.cells (Gg rb lv ov dO) 134 (0,0)):=(Below.heap_alloc _ _ _ (by rw[hsz];exact Jh)).trans (wJ h0)
 have q1:=q.flip fl h1 (by simp[hsz];omega) hr (h2.trans hb2.symm)
 rcases h3 with⟨mm,⟨x1,x2,x3,x4,x5,x6,x7,x8,i',rfl,hx,hn,y,hy,hm⟩,hS⟩|⟨p,rfl,hk,hS⟩
 ·exact K w' ⟨x1,x2,x3,x4,x5,x6,x7,x8⟩ i' y dO (hx.go trivial rfl) (hS y i' hm) (q1.D7 hx hn hy)
 ·refine KB w' p dO ?_ hS
  have k1:=q1.st.kp.trans (hk.mono q1.st.size)
  exact((Kp.refl (nD w lb dO).heap.size rb _).alloc (Nat.le_refl _) ob).trans (k1.mono (by simp))
end
end Go.Proofs.YtdplogkmkgekdaaGreatDoor.Pj
