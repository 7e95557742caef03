/- Calls and parts behind an expression. -/
import Derived.Test.YtdplogkmkgekdaaGreatDoorZParams
import Derived.Test.YtdplogkmkgekdaaGreatDoorMid
import Derived.Test.YtdplogkmkgekdaaGreatDoorFRefdn
set_option linter.all false
set_option maxRecDepth 100000
set_option maxHeartbeats 4000000
namespace Go.Proofs.YtdplogkmkgekdaaGreatDoor
open Go.RowKit
theorem andF {N:Nat} (hA:exF 243 15 N (fun t n=>gCmp t (gG t n 2) n)):exF 229 16 (N+1) (fun t n=>gAndE t (gG t n 2) n):=by
 intro w rb tb cap i t k a h hN
 have hl:=h.l
 have HN:Hid (Bd (N+1) t i k 16):=hN
 clear hN
 have hposI:(0:Int)≤(t.pos i:Int)∧(t.pos i:Int)≤7000:=by have:=h.good.posb i;omega
 go_enter Tryz.func229,Tryz.ntmps229
 have q:=Mf.start (wt:=1) h
 go_wp2_with fail
 replace q:=q.ne' (sz w) (zeroC)
 refine q.nd (hA · (HN.out.down q.le q.ok (by decide))) ?_
 clear q
 intro w1 x1 i1 k1 a1 y1 hc1 ok1 m1 q
 have F:=q.f1
 go_wp2_with fail
 go_loopg [4] (ml t i1 k1) (fun g _ wr=>∃(xe:Nf) (j:Nat) (kj aj:Int),g=ml t j kj∧Hid (kj=0→noK (labOf xe.t))∧∃(ye:List Nr),Hid (∀r,EvL (fun n=>gChainB t 30 ⟨#[38,38]⟩ (gCmp t (gG t n 2) n)) ye ⟨j,kj,aj⟩ r→Ev (fun n=>gAndE t (gG t n 2) n) ⟨i,k,a⟩ r)∧Mf 1 w rb tb cap t i k True (-8) wr j kj aj [(sz w1,xe.a),(sz w,zeroC)] [xe.t] nl [] [ye] [])
 case atStart=>exact⟨x1,i1,k1,a1,rfl,hc1,_,(fun r hr=>(by unfold gAndE;unfold gChain;exact evt)),(q.ne' (sz w1) x1.a).less (by omega)⟩
 case round=>
  clear F q
  obtain⟨xe,j,kj,aj,hgk,HX,ye,HM,q⟩:=hrel
  have hj:=q.st.rd.lt
  have hposJ:(0:Int)≤(t.pos j:Int)∧(t.pos j:Int)≤7000:=by have:=h.good.posb j;omega
  have HG:Hid (gk=ml t j kj):=hgk
  clear hgk
  have F:=q.f2
  cases hk0:(kj==0)
  ·go_wp2_with fail
   refine q.lf ok21b ?_
   clear q F
   intro w2 q
   have F:=q.f2
   go_wp2_with fail
   go_light
   exact q.rt Tryz.results229 1 (HM.out _ (EvL.stop (by unfold gChainB;exact evt))) (hC:=HX.out)
  ·obtain rfl:kj=0:=by simpa using hk0
   have HX0:Hid _:=HX.out rfl
   clear HX
   have hb1:Hid (i≤j∧k=0∧i<j):=⟨q.le,q.ok rfl,q.go trivial rfl⟩
   have HJ:Hid (∀i' k' r',j≤i'→r'<64→Bd N t i' k' r'):=fun i' k' r' h1 h2=>HN.out.any2 hb1.out.2.1 h.lt _ _ _ (fun _=>Nat.lt_of_lt_of_le hb1.out.2.2 h1) h2
   replace q:=q.rebase
   go_wp2_with fail
   refine q.lf ok21b ?_
   clear q F
   intro w3 q
   have F:=q.f2
   go_wp2_with fail
   refine q.lf (is41 · 0 (by decide) _) ?_
   clear q F
   intro w4 q
   have F:=q.f2
   go_wp2_with fail
   ·go_wp2_with fail
    refine q.lf (node20 · 30) ?_
    clear q F
    intro w5 q
    have F:=q.f2
    go_wp2_with fail
    refine(q.ne' (sz w5) (nk 30 (t.pos j) nl)).wn (want39F · _) ?_
    clear q F
    intro w6 i6 k6 a6 ok6 m6 q
    have F:=q.f3
    go_wp2_with fail
    go_region_law (replace q:=q.drew;go_simp;refine q.nd (hA · (HJ.out _ _ _ q.le (by decide))) ?_;clear q F;intro w7 x7 i7 k7 a7 y7 hc7 ok7 m7 q;have F:=q.f3)
    all_goals
     go_wp2_with fail
     go_roundg (ml t i7 k7)
     case measure=>rw[HG.out];exact ml_lt hj ((((q.swap).p05 (sl (sz w7) 2)).pA1 30 (t.pos j) 0 0 ⟨#[]⟩ (sl (sz w7) 2)).l2 (sz w7) 30 (t.pos j) 0 0 ⟨#[]⟩ hposJ (hG:=fun e=>Gr.of_two (by decide) ⟨_,_,rfl,HX0.out,hc7 e⟩)).pop.le (((((q.swap).p05 (sl (sz w7) 2)).pA1 30 (t.pos j) 0 0 ⟨#[]⟩ (sl (sz w7) 2)).l2 (sz w7) 30 (t.pos j) 0 0 ⟨#[]⟩ hposJ (hG:=fun e=>Gr.of_two (by decide) ⟨_,_,rfl,HX0.out,hc7 e⟩)).pop.go trivial)
     case rel=>exact⟨⟨30,(t.pos j),0,0,⟨#[]⟩,(some ⟨(sz w7),0,none⟩),2,2⟩,i7,k7,a7,rfl,(fun _=>noK_lab (ki:=30) (by unfold noK;decide)),_,(fun r hr=>HM.out r (EvL.on (by unfold gChainB;exact evt) hr)),((((q.swap).p05 (sl (sz w7) 2)).pA1 30 (t.pos j) 0 0 ⟨#[]⟩ (sl (sz w7) 2)).l2 (sz w7) 30 (t.pos j) 0 0 ⟨#[]⟩ hposJ (hG:=fun e=>Gr.of_two (by decide) ⟨_,_,rfl,HX0.out,hc7 e⟩)).pop.unbase (s':= -8) (g':=True) hb1.out.1 (fun _=>hb1.out.2.1) (fun _ _=>hb1.out.2.2) (by omega)⟩
   ·go_wp2_with fail
    go_light
    exact(q.unbase (s':= -8) (g':=True) hb1.out.1 (fun _=>hb1.out.2.1) (fun _ _=>hb1.out.2.2) (by omega)).rt Tryz.results229 1 (HM.out _ (EvL.stop (by unfold gChainB;exact evt))) (hC:=fun _=>HX0.out)
end Go.Proofs.YtdplogkmkgekdaaGreatDoor
namespace Go.Proofs.YtdplogkmkgekdaaGreatDoor
open Go.RowKit
theorem cmpF {N:Nat} (hA:exF 260 14 N (fun t n=>gAddE t (gG t n 2) n)):exF 243 15 (N+1) (fun t n=>gCmp t (gG t n 2) n):=by
 intro w rb tb cap i t k a h hN
 have hl:=h.l
 have HN:Hid (Bd (N+1) t i k 15):=hN
 clear hN
 have hposI:(0:Int)≤(t.pos i:Int)∧(t.pos i:Int)≤7000:=by have:=h.good.posb i;omega
 go_enter Tryz.func243,Tryz.ntmps243
 have q:=Mf.start (wt:=1) h
 go_wp2_with fail
 replace q:=q.ne' (sz w) (zeroC)
 refine q.nd (hA · (HN.out.down q.le q.ok (by decide))) ?_
 clear q
 intro w1 x1 i1 k1 a1 y1 hc1 ok1 m1 q
 have F:=q.f1
 have hposA:(0:Int)≤(t.pos i1:Int)∧(t.pos i1:Int)≤7000:=by have:=h.good.posb i1;omega
 go_wp2_with fail
 refine(sign118F ((q.ne' (sz w1) x1.a).alloc _).st.rd [⟨#[61,61]⟩,⟨#[33,61]⟩,⟨#[60,61]⟩,⟨#[62,61]⟩,⟨#[60]⟩,⟨#[62]⟩] (sb:=(sz w1)+1) (by have:=str_row (w1.alloc (.cells x1.a 28)) [⟨#[61,61]⟩,⟨#[33,61]⟩,⟨#[60,61]⟩,⟨#[62,61]⟩,⟨#[60]⟩,⟨#[62]⟩];simpa using this) (by simp) (by decide) (by decide)).mono ?_
 rintro e w2 ⟨s4,rfl,hb2,hs4,hi4,m2⟩
 replace q:=((q.ne' (sz w1) x1.a).alloc _).below hb2
 clear hb2
 replace F:=q.f2
 cases he:s4.toList.isEmpty
 ·have HB:Hid (∀i' k' r',(k'=0→i<i')→r'<64→Bd N t i' k' r'):=HN.out.any2 (q.ok (isB_lt h.good q.st.rd.lt (hi4 he).1).1) h.lt
  clear hi4
  go_wp2_with fail
  refine q.lf (node20 · 29) ?_
  clear q F
  intro w3 q
  have F:=q.f2
  go_wp2_with fail
  refine(q.ne' (sz w3) (nodeC 29 (t.pos i1) 0 0 s4 nl)).wn (want39F · _) ?_
  clear q F
  intro w4 i4 k4 a4 ok4 m4 q
  have F:=q.f3
  go_wp2_with fail
  go_region_law (replace q:=q.drew;go_simp;refine q.nd (hA · (q.bd HB.out (by decide))) ?_;clear q F;intro w5 x5 i5 k5 a5 y5 hc5 ok5 m5 q;have F:=q.f3)
  all_goals
   go_wp2_with fail
   go_light
   refine(((q.swap).p05 (sl (sz w5) 2)).l2 (sz w5) 29 (t.pos i1) 0 0 s4 hposA (Nat.le_trans hs4 (by decide)) (hG:=fun e=>Gr.of_two (by decide) ⟨_,_,rfl,hc1 (ok4.out (ok5.out e)),hc5 e⟩)).rt Tryz.results243 2 (by unfold gCmp;exact evt) ?_
   simp[set11,World.setCell_alloc_past,F,Nat.lt_succ_of_lt]
 ·go_wp2_with fail
  go_light
  exact q.rt Tryz.results243 1 (by unfold gCmp;exact evt) (hC:=hc1)
end Go.Proofs.YtdplogkmkgekdaaGreatDoor
namespace Go.Proofs.YtdplogkmkgekdaaGreatDoor
open Go.RowKit
theorem addF {N:Nat} (hA:exF 266 13 N (fun t n=>gMul t (gG t n 2) n)):exF 260 14 (N+1) (fun t n=>gAddE t (gG t n 2) n):=by
 intro w rb tb cap i t k a h hN
 have hl:=h.l
 have HN:Hid (Bd (N+1) t i k 14):=hN
 clear hN
 have hposI:(0:Int)≤(t.pos i:Int)∧(t.pos i:Int)≤7000:=by have:=h.good.posb i;omega
 go_enter Tryz.func260,Tryz.ntmps260
 have q:=Mf.start (wt:=1) h
 go_wp2_with fail
 replace q:=q.ne' (sz w) (zeroC)
 refine q.nd (hA · (HN.out.down q.le q.ok (by decide))) ?_
 clear q
 intro w1 x1 i1 k1 a1 y1 hc1 ok1 m1 q
 have F:=q.f1
 go_wp2_with fail
 go_loopg [4,5] (ml t i1 k1) (fun g _ _ wr=>∃(xe:Nf) (j:Nat) (kj aj:Int),g=ml t j kj∧Hid (kj=0→noK (labOf xe.t))∧∃(ye:List Nr),Hid (∀r,EvL (fun n=>gChainSB t [⟨#[43]⟩,⟨#[45]⟩] (gMul t (gG t n 2) n)) ye ⟨j,kj,aj⟩ r→Ev (fun n=>gAddE t (gG t n 2) n) ⟨i,k,a⟩ r)∧Mf 1 w rb tb cap t i k True (-8) wr j kj aj [(sz w1,xe.a),(sz w,zeroC)] [xe.t] nl [] [ye] [])
 case atStart=>exact⟨x1,i1,k1,a1,rfl,hc1,_,(fun r hr=>(by unfold gAddE;unfold gChainS;exact evt)),(q.ne' (sz w1) x1.a).less (by omega)⟩
 case round=>
  clear F q
  obtain⟨xe,j,kj,aj,hgk,HX,ye,HM,q⟩:=hrel
  have hj:=q.st.rd.lt
  have hposJ:(0:Int)≤(t.pos j:Int)∧(t.pos j:Int)≤7000:=by have:=h.good.posb j;omega
  have HG:Hid (gk=ml t j kj):=hgk
  clear hgk
  have F:=q.f2
  cases hk0:(kj==0)
  ·go_wp2_with fail
   refine q.lf ok21b ?_
   clear q F
   intro w2 q
   have F:=q.f2
   go_wp2_with fail
   go_light
   exact q.rt Tryz.results260 1 (HM.out _ (EvL.stop (by unfold gChainSB;exact evt))) (hC:=HX.out)
  ·obtain rfl:kj=0:=by simpa using hk0
   have HX0:Hid _:=HX.out rfl
   clear HX
   have hb1:Hid (i≤j∧k=0∧i<j):=⟨q.le,q.ok rfl,q.go trivial rfl⟩
   have HJ:Hid (∀i' k' r',j≤i'→r'<64→Bd N t i' k' r'):=fun i' k' r' h1 h2=>HN.out.any2 hb1.out.2.1 h.lt _ _ _ (fun _=>Nat.lt_of_lt_of_le hb1.out.2.2 h1) h2
   replace q:=q.rebase
   go_wp2_with fail
   refine q.lf ok21b ?_
   clear q F
   intro w3 q
   have F:=q.f2
   go_wp2_with fail
   refine(sign118F (q.alloc _).st.rd [⟨#[43]⟩,⟨#[45]⟩] (sb:=(sz w3)) (by have:=str_row w3 [⟨#[43]⟩,⟨#[45]⟩];simpa using this) (by simp) (by decide) (by decide)).mono ?_
   rintro e w4 ⟨s4,rfl,hb4,hs4,hi4,m4⟩
   replace q:=(q.alloc _).below hb4
   clear hb4
   replace F:=q.f2
   cases he:s4.toList.isEmpty
   ·go_wp2_with fail
    refine q.lf (node20 · 29) ?_
    clear q F
    intro w5 q
    have F:=q.f2
    go_wp2_with fail
    refine(q.ne' (sz w5) (nodeC 29 (t.pos j) 0 0 s4 nl)).wn (want39F · _) ?_
    clear q F
    intro w6 i6 k6 a6 ok6 m6 q
    have F:=q.f3
    go_wp2_with fail
    go_region_law (replace q:=q.drew;go_simp;refine q.nd (hA · (HJ.out _ _ _ q.le (by decide))) ?_;clear q F;intro w7 x7 i7 k7 a7 y7 hc7 ok7 m7 q;have F:=q.f3)
    all_goals
     go_wp2_with fail
     go_roundg (ml t i7 k7)
     case measure=>rw[HG.out];exact ml_lt hj ((((q.swap).p05 (sl (sz w7) 2)).pA1 29 (t.pos j) 0 0 s4 (sl (sz w7) 2)).l2 (sz w7) 29 (t.pos j) 0 0 s4 hposJ (Nat.le_trans hs4 (by decide)) (hG:=fun e=>Gr.of_two (by decide) ⟨_,_,rfl,HX0.out,hc7 e⟩)).pop.le (((((q.swap).p05 (sl (sz w7) 2)).pA1 29 (t.pos j) 0 0 s4 (sl (sz w7) 2)).l2 (sz w7) 29 (t.pos j) 0 0 s4 hposJ (Nat.le_trans hs4 (by decide)) (hG:=fun e=>Gr.of_two (by decide) ⟨_,_,rfl,HX0.out,hc7 e⟩)).pop.go trivial)
     case rel=>exact⟨⟨29,(t.pos j),0,0,s4,(some ⟨(sz w7),0,none⟩),2,2⟩,i7,k7,a7,rfl,(fun _=>noK_lab (ki:=29) (by unfold noK;decide)),_,(fun r hr=>HM.out r (EvL.on (by unfold gChainSB;exact evt) hr)),((((q.swap).p05 (sl (sz w7) 2)).pA1 29 (t.pos j) 0 0 s4 (sl (sz w7) 2)).l2 (sz w7) 29 (t.pos j) 0 0 s4 hposJ (Nat.le_trans hs4 (by decide)) (hG:=fun e=>Gr.of_two (by decide) ⟨_,_,rfl,HX0.out,hc7 e⟩)).pop.unbase (s':= -8) (g':=True) hb1.out.1 (fun _=>hb1.out.2.1) (fun _ _=>hb1.out.2.2) (by omega)⟩
   ·go_wp2_with fail
    go_light
    exact(q.unbase (s':= -8) (g':=True) hb1.out.1 (fun _=>hb1.out.2.1) (fun _ _=>hb1.out.2.2) (by omega)).rt Tryz.results260 1 (HM.out _ (EvL.stop (by unfold gChainSB;exact evt))) (hC:=fun _=>HX0.out)
end Go.Proofs.YtdplogkmkgekdaaGreatDoor
namespace Go.Proofs.YtdplogkmkgekdaaGreatDoor
open Go.RowKit
theorem mulF {N:Nat} (hA:exF 267 12 N (fun t n=>gG t n 2)):exF 266 13 (N+1) (fun t n=>gMul t (gG t n 2) n):=by
 intro w rb tb cap i t k a h hN
 have hl:=h.l
 have HN:Hid (Bd (N+1) t i k 13):=hN
 clear hN
 have hposI:(0:Int)≤(t.pos i:Int)∧(t.pos i:Int)≤7000:=by have:=h.good.posb i;omega
 go_enter Tryz.func266,Tryz.ntmps266
 have q:=Mf.start (wt:=1) h
 go_wp2_with fail
 replace q:=q.ne' (sz w) (zeroC)
 refine q.nd (hA · (HN.out.down q.le q.ok (by decide))) ?_
 clear q
 intro w1 x1 i1 k1 a1 y1 hc1 ok1 m1 q
 have F:=q.f1
 go_wp2_with fail
 go_loopg [4,5] (ml t i1 k1) (fun g _ _ wr=>∃(xe:Nf) (j:Nat) (kj aj:Int),g=ml t j kj∧Hid (kj=0→noK (labOf xe.t))∧∃(ye:List Nr),Hid (∀r,EvL (fun n=>gChainSB t [⟨#[42]⟩,⟨#[47]⟩,⟨#[37]⟩] (gG t n 2)) ye ⟨j,kj,aj⟩ r→Ev (fun n=>gMul t (gG t n 2) n) ⟨i,k,a⟩ r)∧Mf 1 w rb tb cap t i k True (-8) wr j kj aj [(sz w1,xe.a),(sz w,zeroC)] [xe.t] nl [] [ye] [])
 case atStart=>exact⟨x1,i1,k1,a1,rfl,hc1,_,(fun r hr=>(by unfold gMul;unfold gChainS;exact evt)),(q.ne' (sz w1) x1.a).less (by omega)⟩
 case round=>
  clear F q
  obtain⟨xe,j,kj,aj,hgk,HX,ye,HM,q⟩:=hrel
  have hj:=q.st.rd.lt
  have hposJ:(0:Int)≤(t.pos j:Int)∧(t.pos j:Int)≤7000:=by have:=h.good.posb j;omega
  have HG:Hid (gk=ml t j kj):=hgk
  clear hgk
  have F:=q.f2
  cases hk0:(kj==0)
  ·go_wp2_with fail
   refine q.lf ok21b ?_
   clear q F
   intro w2 q
   have F:=q.f2
   go_wp2_with fail
   go_light
   exact q.rt Tryz.results266 1 (HM.out _ (EvL.stop (by unfold gChainSB;exact evt))) (hC:=HX.out)
  ·obtain rfl:kj=0:=by simpa using hk0
   have HX0:Hid _:=HX.out rfl
   clear HX
   have hb1:Hid (i≤j∧k=0∧i<j):=⟨q.le,q.ok rfl,q.go trivial rfl⟩
   have HJ:Hid (∀i' k' r',j≤i'→r'<64→Bd N t i' k' r'):=fun i' k' r' h1 h2=>HN.out.any2 hb1.out.2.1 h.lt _ _ _ (fun _=>Nat.lt_of_lt_of_le hb1.out.2.2 h1) h2
   replace q:=q.rebase
   go_wp2_with fail
   refine q.lf ok21b ?_
   clear q F
   intro w3 q
   have F:=q.f2
   go_wp2_with fail
   refine(sign118F (q.alloc _).st.rd [⟨#[42]⟩,⟨#[47]⟩,⟨#[37]⟩] (sb:=(sz w3)) (by have:=str_row w3 [⟨#[42]⟩,⟨#[47]⟩,⟨#[37]⟩];simpa using this) (by simp) (by decide) (by decide)).mono ?_
   rintro e w4 ⟨s4,rfl,hb4,hs4,hi4,m4⟩
   replace q:=(q.alloc _).below hb4
   clear hb4
   replace F:=q.f2
   cases he:s4.toList.isEmpty
   ·go_wp2_with fail
    refine q.lf (node20 · 29) ?_
    clear q F
    intro w5 q
    have F:=q.f2
    go_wp2_with fail
    refine(q.ne' (sz w5) (nodeC 29 (t.pos j) 0 0 s4 nl)).wn (want39F · _) ?_
    clear q F
    intro w6 i6 k6 a6 ok6 m6 q
    have F:=q.f3
    go_wp2_with fail
    go_region_law (replace q:=q.drew;go_simp;refine q.nd (hA · (HJ.out _ _ _ q.le (by decide))) ?_;clear q F;intro w7 x7 i7 k7 a7 y7 hc7 ok7 m7 q;have F:=q.f3)
    all_goals
     go_wp2_with fail
     go_roundg (ml t i7 k7)
     case measure=>rw[HG.out];exact ml_lt hj ((((q.swap).p05 (sl (sz w7) 2)).pA1 29 (t.pos j) 0 0 s4 (sl (sz w7) 2)).l2 (sz w7) 29 (t.pos j) 0 0 s4 hposJ (Nat.le_trans hs4 (by decide)) (hG:=fun e=>Gr.of_two (by decide) ⟨_,_,rfl,HX0.out,hc7 e⟩)).pop.le (((((q.swap).p05 (sl (sz w7) 2)).pA1 29 (t.pos j) 0 0 s4 (sl (sz w7) 2)).l2 (sz w7) 29 (t.pos j) 0 0 s4 hposJ (Nat.le_trans hs4 (by decide)) (hG:=fun e=>Gr.of_two (by decide) ⟨_,_,rfl,HX0.out,hc7 e⟩)).pop.go trivial)
     case rel=>exact⟨⟨29,(t.pos j),0,0,s4,(some ⟨(sz w7),0,none⟩),2,2⟩,i7,k7,a7,rfl,(fun _=>noK_lab (ki:=29) (by unfold noK;decide)),_,(fun r hr=>HM.out r (EvL.on (by unfold gChainSB;exact evt) hr)),((((q.swap).p05 (sl (sz w7) 2)).pA1 29 (t.pos j) 0 0 s4 (sl (sz w7) 2)).l2 (sz w7) 29 (t.pos j) 0 0 s4 hposJ (Nat.le_trans hs4 (by decide)) (hG:=fun e=>Gr.of_two (by decide) ⟨_,_,rfl,HX0.out,hc7 e⟩)).pop.unbase (s':= -8) (g':=True) hb1.out.1 (fun _=>hb1.out.2.1) (fun _ _=>hb1.out.2.2) (by omega)⟩
   ·go_wp2_with fail
    go_light
    exact(q.unbase (s':= -8) (g':=True) hb1.out.1 (fun _=>hb1.out.2.1) (fun _ _=>hb1.out.2.2) (by omega)).rt Tryz.results266 1 (HM.out _ (EvL.stop (by unfold gChainSB;exact evt))) (hC:=fun _=>HX0.out)
end Go.Proofs.YtdplogkmkgekdaaGreatDoor
namespace Go.Proofs.YtdplogkmkgekdaaGreatDoor
open Go.RowKit
theorem unaryF {N:Nat} (hP:exF 268 11 N (fun t n=>gPostfix t (gG t n 1) (gG t n 6) n)) (hU:exF 267 12 N (fun t n=>gG t n 2)):exF 267 12 (N+1) (fun t n=>gUnary t (gG t n 2) (gPostfix t (gG t n 1) (gG t n 6) n)):=by
 intro w rb tb cap i t k a h hN
 have hl:=h.l
 have HN:Hid (Bd (N+1) t i k 12):=hN
 clear hN
 have hposI:(0:Int)≤(t.pos i:Int)∧(t.pos i:Int)≤7000:=by have:=h.good.posb i;omega
 have hpos:(t.pos i:Int)≤6000:=by have:=h.good.posb i;omega
 have hposJ:(0:Int)≤(t.pos i:Int)+1∧(t.pos i:Int)+1≤7000:=by omega
 go_enter Tryz.func267,Tryz.ntmps267
 have q:=Mf.start (wt:=1) h
 go_wp2_with fail
 refine(q.ne' (sz w) (zeroC)).lf (node20 · 0) ?_
 clear q
 intro w1 q
 have F:=q.f1
 go_wp2_with fail
 refine(sign118F ((q.ne' (sz w1) (nk 0 (t.pos i) nl)).alloc _).st.rd [⟨#[45]⟩,⟨#[33]⟩,⟨#[42]⟩,⟨#[38]⟩,⟨#[38,38]⟩] (sb:=(sz w1)+1) (by have:=str_row (w1.alloc (.cells (nk 0 (t.pos i) nl) 28)) [⟨#[45]⟩,⟨#[33]⟩,⟨#[42]⟩,⟨#[38]⟩,⟨#[38,38]⟩];simpa using this) (by simp) (by decide) (by decide)).mono ?_
 rintro e w2 ⟨s4,rfl,hb2,hs4,hi4,m2⟩
 replace q:=((q.ne' (sz w1) (nk 0 (t.pos i) nl)).alloc _).below hb2
 clear hb2
 replace F:=q.f2
 cases he:s4.toList.isEmpty
 ·have HS:Hid (isB t i k 0 s4=true∧s4∈[⟨#[45]⟩,⟨#[33]⟩,⟨#[42]⟩,⟨#[38]⟩,⟨#[38,38]⟩]):=hi4 he
  clear hi4
  have HK:Hid (k=0):=(isB_lt h.good h.lt HS.out.1).1
  have HB:Hid (∀i' k' r',(k'=0→i<i')→r'<64→Bd N t i' k' r'):=HN.out.any2 HK.out h.lt
  go_wp2_with fail
  refine q.wn (want39F · _) ?_
  clear q F
  intro w3 i3 k3 a3 ok3 m3 q
  have F:=q.f2
  cases t0:(s4.toList==[45])
  ·cases t1:(s4.toList==[33])
   ·cases t2:(s4.toList==[42])
    ·cases t3:(s4.toList==[38])
     ·cases t4:(s4.toList==[38,38])
      ·exfalso
       have:=HS.out.2
       simp only[List.mem_cons,List.not_mem_nil,or_false] at this
       rcases this with rfl|rfl|rfl|rfl|rfl<;>simp[Lib.toList_data] at*
      ·go_wp2_with fail
       refine((q.p00 27).ne' (sz w3) (nk 27 (↑(t.pos i)+1) nl)).et (eat42 · _) ?_
       clear q F
       intro w4 b4 i4 hE4 m4 q
       have F:=q.f3
       go_wp2_with fail
       ·go_wp2_with fail
        replace q:=q.p02 1
        refine q.nd (hU · (q.bd HB.out (by decide))) ?_
        clear q F
        intro w5 x5 i5 k5 a5 y5 hc5 ok5 m5 q
        have F:=q.f3
        go_wp2_with fail
        go_light
        refine((((q.p05 (sl (sz w5) 1)).p15 (sl ((sz w5)+1) 1)).l1 (sz w5) 27 (↑(t.pos i)+1) 1 0 ⟨#[]⟩ hposJ (hG:=fun e=>Gr.of_lend ⟨.inr rfl,_,rfl,hc5 e⟩)).l1 ((sz w5)+1) 27 (t.pos i) 0 0 ⟨#[]⟩ hposI (hG:=fun e=>Gr.of_lend ⟨.inl rfl,_,rfl,noK_lab (ki:=27) (by unfold noK;decide)⟩)).rt Tryz.results267 2 (by unfold gUnary;unfold gMut;exact evt) ?_
        simp[set11,World.setCell_alloc_past,F,Nat.lt_succ_of_lt]
       ·go_wp2_with fail
        refine q.nd (hU · (q.bd HB.out (by decide))) ?_
        clear q F
        intro w6 x6 i6 k6 a6 y6 hc6 ok6 m6 q
        have F:=q.f3
        go_wp2_with fail
        go_light
        refine((((q.p05 (sl (sz w6) 1)).p15 (sl ((sz w6)+1) 1)).l1 (sz w6) 27 (↑(t.pos i)+1) 0 0 ⟨#[]⟩ hposJ (hG:=fun e=>Gr.of_lend ⟨.inl rfl,_,rfl,hc6 e⟩)).l1 ((sz w6)+1) 27 (t.pos i) 0 0 ⟨#[]⟩ hposI (hG:=fun e=>Gr.of_lend ⟨.inl rfl,_,rfl,noK_lab (ki:=27) (by unfold noK;decide)⟩)).rt Tryz.results267 2 (by unfold gUnary;unfold gMut;exact evt) ?_
        simp[set11,World.setCell_alloc_past,F,Nat.lt_succ_of_lt]
     ·go_wp2_with fail
      refine(q.p00 27).et (eat42 · _) ?_
      clear q F
      intro w7 b7 i7 hE7 m7 q
      have F:=q.f2
      go_wp2_with fail
      ·go_wp2_with fail
       replace q:=q.p02 1
       refine q.nd (hU · (q.bd HB.out (by decide))) ?_
       clear q F
       intro w8 x8 i8 k8 a8 y8 hc8 ok8 m8 q
       have F:=q.f2
       go_wp2_with fail
       go_light
       refine((q.p05 (sl (sz w8) 1)).l1 (sz w8) 27 (t.pos i) 1 0 ⟨#[]⟩ hposI (hG:=fun e=>Gr.of_lend ⟨.inr rfl,_,rfl,hc8 e⟩)).rt Tryz.results267 1 (by unfold gUnary;unfold gMut;exact evt) ?_
       simp[set11,World.setCell_alloc_past,F,Nat.lt_succ_of_lt]
      ·go_wp2_with fail
       refine q.nd (hU · (q.bd HB.out (by decide))) ?_
       clear q F
       intro w9 x9 i9 k9 a9 y9 hc9 ok9 m9 q
       have F:=q.f2
       go_wp2_with fail
       go_light
       refine((q.p05 (sl (sz w9) 1)).l1 (sz w9) 27 (t.pos i) 0 0 ⟨#[]⟩ hposI (hG:=fun e=>Gr.of_lend ⟨.inl rfl,_,rfl,hc9 e⟩)).rt Tryz.results267 1 (by unfold gUnary;unfold gMut;exact evt) ?_
       simp[set11,World.setCell_alloc_past,F,Nat.lt_succ_of_lt]
    ·go_wp2_with fail
     replace q:=q.p00 26
     refine q.nd (hU · (q.bd HB.out (by decide))) ?_
     clear q F
     intro w10 x10 i10 k10 a10 y10 hc10 ok10 m10 q
     have F:=q.f2
     go_wp2_with fail
     go_light
     refine((q.p05 (sl (sz w10) 1)).l1 (sz w10) 26 (t.pos i) 0 0 ⟨#[]⟩ hposI (hG:=fun e=>Gr.of_one (by decide) ⟨_,rfl,hc10 e⟩)).rt Tryz.results267 1 (by unfold gUnary;unfold gMut;exact evt) ?_
     simp[set11,World.setCell_alloc_past,F,Nat.lt_succ_of_lt]
   ·go_wp2_with fail
    replace q:=(q.p00 28).p04 s4
    refine q.nd (hU · (q.bd HB.out (by decide))) ?_
    clear q F
    intro w11 x11 i11 k11 a11 y11 hc11 ok11 m11 q
    have F:=q.f2
    go_wp2_with fail
    go_light
    refine((q.p05 (sl (sz w11) 1)).l1 (sz w11) 28 (t.pos i) 0 0 s4 hposI (Nat.le_trans hs4 (by decide)) (hG:=fun e=>Gr.of_one (by decide) ⟨_,rfl,hc11 e⟩)).rt Tryz.results267 1 (by unfold gUnary;unfold gMut;exact evt) ?_
    simp[set11,World.setCell_alloc_past,F,Nat.lt_succ_of_lt]
  ·go_wp2_with fail
   replace q:=(q.p00 28).p04 s4
   refine q.nd (hU · (q.bd HB.out (by decide))) ?_
   clear q F
   intro w12 x12 i12 k12 a12 y12 hc12 ok12 m12 q
   have F:=q.f2
   go_wp2_with fail
   go_light
   refine((q.p05 (sl (sz w12) 1)).l1 (sz w12) 28 (t.pos i) 0 0 s4 hposI (Nat.le_trans hs4 (by decide)) (hG:=fun e=>Gr.of_one (by decide) ⟨_,rfl,hc12 e⟩)).rt Tryz.results267 1 (by unfold gUnary;unfold gMut;exact evt) ?_
   simp[set11,World.setCell_alloc_past,F,Nat.lt_succ_of_lt]
 ·go_wp2_with fail
  refine q.nd (hP · (HN.out.down q.le q.ok (by decide))) ?_
  clear q F
  intro w13 x13 i13 k13 a13 y13 hc13 ok13 m13 q
  have F:=q.f2
  go_wp2_with fail
  go_light
  exact q.rt Tryz.results267 1 (by unfold gUnary;unfold gMut;exact evt) (hC:=hc13)
end Go.Proofs.YtdplogkmkgekdaaGreatDoor
namespace Go.Proofs.YtdplogkmkgekdaaGreatDoor
open Go.RowKit
theorem postfixF {N:Nat} (hP:exF 175 10 N (fun t n=>gG t n 6)) (hXs:exsF 209 19 N (fun t n=>gList t (gG t n 1) ⟨#[41]⟩ n)):exF 268 11 (N+1) (fun t n=>gPostfix t (gG t n 1) (gG t n 6) n):=by
 intro w rb tb cap i t k a h hN
 have hl:=h.l
 have HN:Hid (Bd (N+1) t i k 11):=hN
 clear hN
 have hposI:(0:Int)≤(t.pos i:Int)∧(t.pos i:Int)≤7000:=by have:=h.good.posb i;omega
 go_enter Tryz.func268,Tryz.ntmps268
 have hfd:=fld103_3
 have q:=Mf.start (wt:=1) h
 go_wp2_with fail
 replace q:=q.ne' (sz w) (zeroC)
 refine q.nd (hP · (HN.out.down q.le q.ok (by decide))) ?_
 clear q
 intro w1 x1 i1 k1 a1 y1 hc1 ok1 m1 q
 have F:=q.f1
 go_wp2_with fail
 go_loopg [4,5] (ml t i1 k1) (fun g _ _ wr=>∃(xe:Nf) (j:Nat) (kj aj:Int),g=ml t j kj∧Hid (kj=0→noK (labOf xe.t))∧∃(ye:List Nr),Hid (∀r,EvL (fun n=>gPostfixB t (gG t n 1) n) ye ⟨j,kj,aj⟩ r→Ev (fun n=>gPostfix t (gG t n 1) (gG t n 6) n) ⟨i,k,a⟩ r)∧Mf 1 w rb tb cap t i k True (-8) wr j kj aj [(sz w1,xe.a),(sz w,zeroC)] [xe.t] nl [] [ye] [])
 case atStart=>exact⟨x1,i1,k1,a1,rfl,hc1,_,(fun r hr=>(by unfold gPostfix;exact evt)),(q.ne' (sz w1) x1.a).less (by omega)⟩
 case round=>
  clear F q
  obtain⟨xe,j,kj,aj,hgk,HX,ye,HM,q⟩:=hrel
  have hj:=q.st.rd.lt
  have hposJ:(0:Int)≤(t.pos j:Int)∧(t.pos j:Int)≤7000:=by have:=h.good.posb j;omega
  have HG:Hid (gk=ml t j kj):=hgk
  clear hgk
  have F:=q.f2
  cases hk0:(kj==0)
  ·go_wp2_with fail
   refine q.lf ok21b ?_
   clear q F
   intro w2 q
   have F:=q.f2
   go_wp2_with fail
   go_light
   exact q.rt Tryz.results268 1 (HM.out _ (EvL.stop (by unfold gPostfixB;exact evt))) (hC:=HX.out)
  ·obtain rfl:kj=0:=by simpa using hk0
   have HX0:Hid (noK (labOf xe.t)):=HX.out rfl
   clear HX
   have hb1:Hid (i≤j∧k=0∧i<j):=⟨q.le,q.ok rfl,q.go trivial rfl⟩
   have HJ:Hid (∀i' k' r',j≤i'→r'<64→Bd N t i' k' r'):=fun i' k' r' h1 h2=>HN.out.any2 hb1.out.2.1 h.lt _ _ _ (fun _=>Nat.lt_of_lt_of_le hb1.out.2.2 h1) h2
   replace q:=q.rebase
   go_wp2_with fail
   refine q.lf ok21b ?_
   clear q F
   intro w3 q
   have F:=q.f2
   go_wp2_with fail
   refine q.lf (is41 · 0 (by decide) _) ?_
   clear q F
   intro w4 q
   have F:=q.f2
   go_wp2_with fail
   ·go_wp2_with fail
    refine q.lf (node20 · 24) ?_
    clear q F
    intro w5 q
    have F:=q.f2
    go_wp2_with fail
    refine(q.ne' (sz w5) (nk 24 (t.pos j) nl)).wn (want39F · _) ?_
    clear q F
    intro w6 i6 k6 a6 ok6 m6 q
    have F:=q.f3
    go_upto_region 6 with fail
    go_cut [] (fun wx=>∃(kv:Value) (vs:List (List Value)) (j7:Nat) (k7 a7:Int),vs.length≤6003∧Hid (k7=0→vs.map labOf≠[]∧∀x∈vs.map labOf,noK x)∧(∃(ks:List (List Nr)),Ev (fun n=>gList t (gG t n 1) ⟨#[41]⟩ n) ⟨i6,k6,a6⟩ (ks,⟨j7,k7,a7⟩)∧Mf 1 w rb tb cap t j 0 True (16*((j:Int) - (i:Int))+(-24)) wx j7 k7 a7 [(sz w5,nk 24 (t.pos j) kv),(sz w1,xe.a),(sz w,zeroC)] [] kv vs [] (ye::ks)))
    case first=>
     go_wp2_with fail
     go_region_law (first|(refine step_run (v:=(sl (sz w6) 1)) (xv:=.slice ao8 vs8.length cp8) (R:=fun vv ww=>∃ao9 cp9,vv=.slice ao9 (1+vs8.length) cp9∧Mf 1 w rb tb cap t j 0 True (16*((j:Int) - (i:Int))+(-24)) ww i8 k8 a8 [(sz w5,nk 24 (t.pos j) nl),(sz w1,xe.a),(sz w,zeroC)] [] (.slice ao9 (1+vs8.length) cp9) ([xe.t]++vs8) [] ([ye]++V8)) (by rfl) (by rfl) (by rfl) (by rfl) (Mf.run_apps (us:=vs8) (U:=V8) (T:=[]) qB hV8 hK8 (by simp) (Nat.le_trans hl8 (by decide)) _) ?_;rintro v' w9 ⟨ao9,cp9,rfl,q'⟩;clear F;have F:=q'.f3)|(refine step_run (v:=(sl (sz w8) 1)) (xv:=.slice ao8 vs8.length cp8) (R:=fun vv ww=>∃ao9 cp9,vv=.slice ao9 (1+vs8.length) cp9∧Mf 1 w rb tb cap t j 0 True (16*((j:Int) - (i:Int))+(-24)) ww i8 k8 a8 [(sz w5,nk 24 (t.pos j) nl),(sz w1,xe.a),(sz w,zeroC)] [] (.slice ao9 (1+vs8.length) cp9) ([xe.t]++vs8) [] ([ye]++V8)) (by rfl) (by rfl) (by rfl) (by rfl) (Mf.run_apps (us:=vs8) (U:=V8) (T:=[]) ((qA.rot hV8).m1 (sz w8)) hV8 (hK8.alloc _) (by simp) (Nat.le_trans hl8 (by decide)) _) ?_;rintro v' w9 ⟨ao9,cp9,rfl,q'⟩;clear F;have F:=q'.f3)|(go_simp;refine(hXs q.drew.st.rd (HJ.out _ _ _ q.le (by decide))).mono ?_;rintro e w8 ⟨ao8,cp8,vs8,i8,k8,a8,rfl,hx8,hK8,hl8,hP8,hz8,V8,hF8,m8⟩;have hV8:=hF8.len;have qA:Mf 1 w rb tb cap t j 0 True (16*((j:Int) - (i:Int))+(-24)) w8 i8 k8 a8 [(sz w5,nk 24 (t.pos j) nl),(sz w1,xe.a),(sz w,zeroC)] (vs8++[xe.t]) nl [] (V8++[ye]) []:=((q.drew.holds hx8 hK8 hz8 hF8).up (g':=True) (fun _ e=>Nat.lt_of_le_of_lt q.le (hx8.go trivial e))).less (by omega);clear F;have F:=qA.f3)|(go_simp;refine(hXs (q.drew.m1 (sz w6)).st.rd (HJ.out _ _ _ q.le (by decide))).mono ?_;rintro e w8 ⟨ao8,cp8,vs8,i8,k8,a8,rfl,hx8,hK8,hl8,hP8,hz8,V8,hF8,m8⟩;have hV8:=hF8.len;have qB:Mf 1 w rb tb cap t j 0 True (16*((j:Int) - (i:Int))+(-24)) w8 i8 k8 a8 [(sz w5,nk 24 (t.pos j) nl),(sz w1,xe.a),(sz w,zeroC)] (vs8++[]) (sl (sz w6) 1) [xe.t] (V8++[]) [ye]:=(((q.drew.m1 (sz w6)).holds hx8 hK8 hz8 hF8).up (g':=True) (fun _ e=>Nat.lt_of_le_of_lt q.le (hx8.go trivial e))).less (by omega);clear F;have F:=qB.f3))
     all_goals
      clear q
      have q:=q'
      clear q'
      go_wp2_with fail
      go_meet
      exact⟨(.slice ao9 (1+vs8.length) cp9),([xe.t]++vs8),i8,k8,a8,(by have:=hl8;simp;omega),(fun e=>⟨by simp,fun x hx=>(List.mem_cons.1 hx).elim (fun h9=>h9▸HX0.out) (fun h9=>hP8 e x h9)⟩),V8,m8,((q.p05 (.slice ao9 (1+vs8.length) cp9)).less (by omega))⟩
    case rest=>
     clear F q
     obtain⟨kv,vs,j7,k7,a7,hlen,HC,ks,mm,q⟩:=hcut
     obtain⟨w10,hw⟩:∃x,x=wc:=⟨_,rfl⟩
     subst hw
     have F:=q.f3
     obtain⟨ao11,cp11,rfl⟩:=q.shape
     replace F:=q.f3
     go_wp2_with fail
     go_roundg (ml t j7 k7)
     case measure=>rw[HG.out];exact ml_lt hj ((q.pA1 24 (t.pos j) 0 0 ⟨#[]⟩ (.slice ao11 vs.length cp11)).fk 24 (t.pos j) (Nat.le_trans hlen (by decide)) hposJ (hG:=fun e=>Gr.of_call (HC.out e))).pop.le (((q.pA1 24 (t.pos j) 0 0 ⟨#[]⟩ (.slice ao11 vs.length cp11)).fk 24 (t.pos j) (Nat.le_trans hlen (by decide)) hposJ (hG:=fun e=>Gr.of_call (HC.out e))).pop.go trivial)
     case rel=>exact⟨⟨24,(t.pos j),0,0,⟨#[]⟩,ao11,vs.length,cp11⟩,j7,k7,a7,rfl,(fun _=>noK_lab (ki:=24) (by unfold noK;decide)),_,(fun r hr=>HM.out r (EvL.on (by unfold gPostfixB;exact evt) hr)),((q.pA1 24 (t.pos j) 0 0 ⟨#[]⟩ (.slice ao11 vs.length cp11)).fk 24 (t.pos j) (Nat.le_trans hlen (by decide)) hposJ (hG:=fun e=>Gr.of_call (HC.out e))).pop.unbase (s':= -8) (g':=True) hb1.out.1 (fun _=>hb1.out.2.1) (fun _ _=>hb1.out.2.2) (by omega)⟩
   ·go_wp2_with fail
    refine q.lf (is41 · 0 (by decide) _) ?_
    clear q F
    intro w12 q
    have F:=q.f2
    go_wp2_with fail
    ·go_wp2_with fail
     refine q.lf (node20 · 25) ?_
     clear q F
     intro w13 q
     have F:=q.f2
     go_wp2_with fail
     refine(q.ne' (sz w13) (nk 25 (t.pos j) nl)).wn (want39F · _) ?_
     clear q F
     intro w14 i14 k14 a14 ok14 m14 q
     have F:=q.f3
     go_wp2_with fail
     refine q.lf (kind22 · 0 (by decide) 1) ?_
     clear q F
     intro w15 q
     have F:=q.f3
     go_upto_if 30 with fail
     go_cut [] (fun wx=>∃(NN:Int) (nm:ByteArray) (j16:Nat) (k16 a16:Int),nm.size≤20000∧Hid (0≤NN∧NN≤9223372036854775807)∧(Ev (fun _=>bnd (gKind t 0 1) (fun b3=>cond b3 (bnd (gNum t) (fun n=>seq (gAdd 1) (ret (true,nd 25 (t.pos j:Int) n 0 E0 [ye])))) (bnd (gName t) (fun s=>ret (true,nd 25 (t.pos j:Int) 0 0 s [ye]))))) ⟨i14,k14,a14⟩ ((true,nd 25 (t.pos j:Int) NN 0 nm [ye]),⟨j16,k16,a16⟩)∧Mf 1 w rb tb cap t j 0 True (16*((j:Int) - (i:Int))+(-40)) wx j16 k16 a16 [(sz w13,nodeC 25 (t.pos j) NN 0 nm nl),(sz w1,xe.a),(sz w,zeroC)] [xe.t] nl [] [ye] []))
     case first=>
      go_wp2_with fail
      ·have hlt:i14+1<t.len:=(kindB_lt (q:=1) h.good q.st.rd.lt (by decide) ‹_›).2.1
       have hi1:(i14:Int)<(t.len:Int):=by have:=q.st.rd.lt;omega
       have hfew:(t.len:Int)≤6001:=by have:=h.good.few;omega
       go_wp2_with fail
       refine q.lf tok38 ?_
       clear q F
       intro w17 q
       have F:=q.f3
       have r1:=q.st.rd.r1
       have fr1:=q.st.rd.fz 1
       have lr:=q.st.rd.l
       go_wp2_with fail
       go_meet
       exact⟨(t.num i14:Int),⟨#[]⟩,(i14+1),k14,a14,(by decide),(by have:=h.good.numb i14;show(0:Int)≤(t.num i14:Int)∧(t.num i14:Int)≤9223372036854775807;omega),evt,(((q.p02 (t.num i14:Int)).goI (j':=i14+1) hlt (Nat.lt_succ_self _)).less (by omega))⟩
      ·go_wp2_with fail
       refine q.nm name40F ?_
       clear q F
       intro w18 s18 i18 k18 a18 hs18 ho18 ok18 m18 q
       have F:=q.f3
       go_wp2_with fail
       go_meet
       exact⟨0,s18,i18,k18,a18,(Nat.le_trans hs18 (by decide)),(by show(0:Int)≤0∧(0:Int)≤9223372036854775807;decide),evt,((q.p04 s18).less (by omega))⟩
     case rest=>
      clear F q
      obtain⟨NN,nm,j16,k16,a16,hnm,HNN,mm,q⟩:=hcut
      obtain⟨w19,hw⟩:∃x,x=wc:=⟨_,rfl⟩
      subst hw
      have F:=q.f3
      go_wp2_with fail
      go_roundg (ml t j16 k16)
      case measure=>rw[HG.out];exact ml_lt hj (((q.p05 (sl (sz w19) 1)).pA1 25 (t.pos j) NN 0 nm (sl (sz w19) 1)).l1 (sz w19) 25 (t.pos j) NN 0 nm hposJ hnm (hG:=fun _=>Gr.of_part ⟨HNN.out,_,rfl,HX0.out⟩)).pop.le ((((q.p05 (sl (sz w19) 1)).pA1 25 (t.pos j) NN 0 nm (sl (sz w19) 1)).l1 (sz w19) 25 (t.pos j) NN 0 nm hposJ hnm (hG:=fun _=>Gr.of_part ⟨HNN.out,_,rfl,HX0.out⟩)).pop.go trivial)
      case rel=>exact⟨⟨25,(t.pos j),NN,0,nm,(some ⟨(sz w19),0,none⟩),1,1⟩,j16,k16,a16,rfl,(fun _=>noK_lab (ki:=25) (by unfold noK;decide)),_,(fun r hr=>HM.out r (EvL.on (by unfold gPostfixB;exact evt) hr)),(((q.p05 (sl (sz w19) 1)).pA1 25 (t.pos j) NN 0 nm (sl (sz w19) 1)).l1 (sz w19) 25 (t.pos j) NN 0 nm hposJ hnm (hG:=fun _=>Gr.of_part ⟨HNN.out,_,rfl,HX0.out⟩)).pop.unbase (s':= -8) (g':=True) hb1.out.1 (fun _=>hb1.out.2.1) (fun _ _=>hb1.out.2.2) (by omega)⟩
    ·go_wp2_with fail
     go_light
     exact(q.unbase (s':= -8) (g':=True) hb1.out.1 (fun _=>hb1.out.2.1) (fun _ _=>hb1.out.2.2) (by omega)).rt Tryz.results268 1 (HM.out _ (EvL.stop (by unfold gPostfixB;exact evt))) (hC:=fun _=>HX0.out)
end Go.Proofs.YtdplogkmkgekdaaGreatDoor
