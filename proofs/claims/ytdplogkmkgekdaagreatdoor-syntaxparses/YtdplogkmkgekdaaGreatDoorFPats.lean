/- Patterns with commas between, counted. -/
import Derived.Test.YtdplogkmkgekdaaGreatDoorFRefdn
import Derived.Test.YtdplogkmkgekdaaGreatDoorZParams
set_option linter.all false
set_option maxRecDepth 100000
set_option maxHeartbeats 4000000
namespace Go.Proofs.YtdplogkmkgekdaaGreatDoor
open Go.RowKit
theorem closureF {N:Nat} (hCa:liF 228 True (fun ks=>∀x∈ks,x=47) (fun t n=>gCaps t n)) (hPa:liF 171 True (fun ks=>∀x∈ks,x=12) (fun t n=>gParams t (gG t n 0) n)) (hRe:noF 1 172 False (-1) tyK (fun t n=>gResult t (gG t n 0))) (hB:exF 104 7 N (fun t n=>gG t n 3)):exKF 227 8 (N+1) (fun t n=>gClosure t (gG t n 0) (gG t n 3) n):=by
 intro w rb tb cap i t a h hN
 obtain⟨k,hk⟩:∃k:Int,k=0:=⟨_,rfl⟩
 rw[←hk] at h hN⊢
 have HK:Hid (k=0):=hk
 clear hk
 have hl:=h.l
 have HN:Hid (Bd (N+1) t i k 8):=hN
 clear hN
 have HB:Hid (∀i' k' r',(k'=0→i<i')→r'<64→Bd N t i' k' r'):=HN.out.any2 HK.out h.lt
 have hposI:(0:Int)≤(t.pos i:Int)∧(t.pos i:Int)≤7000:=by have:=h.good.posb i;omega
 go_enter Tryz.func227,Tryz.ntmps227
 have q:=Mf.start (wt:=1) h
 go_wp2_with fail
 refine(q.ne' (sz w) (zeroC)).lf (node20 · 46) ?_
 clear q
 intro w1 q
 have F:=q.f1
 go_wp2_with fail
 refine(q.ne' (sz w1) (nk 46 (t.pos i) nl)).wn (want39F · _) ?_
 clear q F
 intro w2 i2 k2 a2 ok2 m2 q
 have F:=q.f2
 go_wp2_with fail
 refine q.et (eat42 · _) ?_
 clear q F
 intro w3 b3 i3 hE3 m3 q
 have F:=q.f2
 go_upto_if 9 with fail
 go_cut [] (fun wx=>∃(NN:Int) (j4:Nat) (k4 a4:Int),(Ev (fun _=>gMutOnce t) ⟨i2,k2,a2⟩ (NN,⟨j4,k4,a4⟩)∧Mf 1 w rb tb cap t i k True (-16) wx j4 k4 a4 [(sz w1,nodeC 46 (t.pos i) NN 0 ⟨#[]⟩ nl),(sz w,zeroC)] [] nl [] [] []))
 case first=>
  go_wp2_with fail
  ·go_wp2_with fail
   go_meet
   exact⟨1,i3,k2,a2,(by unfold gMutOnce;exact evt),((q.p02 1).less (by omega))⟩
  ·go_wp2_with fail
   refine q.et (eat42 · _) ?_
   clear q F
   intro w5 b5 i5 hE5 m5 q
   have F:=q.f2
   go_wp2_with fail
   ·go_wp2_with fail
    go_meet
    exact⟨2,i5,k2,a2,(by unfold gMutOnce;exact evt),((q.p02 2).less (by omega))⟩
   ·go_wp2_with fail
    go_meet
    exact⟨0,i5,k2,a2,(by unfold gMutOnce;exact evt),(q.less (by omega))⟩
 case rest=>
  clear F q
  obtain⟨NN,j4,k4,a4,mo,q⟩:=hcut
  obtain⟨w6,hw⟩:∃x,x=wc:=⟨_,rfl⟩
  subst hw
  have F:=q.f2
  go_wp2_with fail
  refine q.li hCa ?_
  clear q F
  intro w7 ao7 cp7 vs7 i7 k7 a7 V7 hl7 hP7 ok7 m7 q
  have hV7:Hid (V7.length=vs7.length):=q.fv.len
  have F:=q.f2
  go_upto_region 9 with fail
  go_cut [] (fun wx=>∃(kv8:Value) (vs8:List (List Value)) (j9:Nat) (k9 a9:Int),vs8.length≤12004∧Hid (k9=0→∃cs ps,vs8.map labOf=cs++ps∧cs.length=vs7.length∧(∀c∈cs,c=47)∧∀p∈ps,p=12)∧(∃(ps:List (List Nr)),Ev (fun n=>gParams t (gG t n 0) n) ⟨i7,k7,a7⟩ (ps,⟨j9,k9,a9⟩)∧Mf 1 w rb tb cap t i k True (-16) wx j9 k9 a9 [(sz w1,nodeC 46 (t.pos i) NN (vs7.length:Int) ⟨#[]⟩ kv8),(sz w,zeroC)] [] kv8 vs8 [] (V7++ps)))
  case first=>
   go_wp2_with fail
   go_region_law (first|(refine step_run (v:=(.slice ao7 vs7.length cp7)) (xv:=(.slice ao10 vs10.length cp10)) (R:=fun vv ww=>∃ao11 cp11,vv=(.slice ao11 (vs7.length+vs10.length) cp11)∧Mf 1 w rb tb cap t i k True (-16) ww i10 k10 a10 [(sz w1,nodeC 46 (t.pos i) NN (vs7.length:Int) ⟨#[]⟩ (.slice ao7 vs7.length cp7)),(sz w,zeroC)] [] (.slice ao11 (vs7.length+vs10.length) cp11) (vs7++vs10) [] (V7++V10)) (by rfl) (by rfl) (by rfl) (by rfl) (Mf.run_apps (us:=vs10) (U:=V10) q hV10 hK10 (Nat.le_trans hl7 (by decide)) (Nat.le_trans hl10 (by decide)) _) ?_;rintro v' w11 ⟨ao11,cp11,rfl,q'⟩;replace q:=q';clear hK10 q';replace F:=q.f2)|(replace q:=((q.p05 (.slice ao7 vs7.length cp7)).p03 (vs7.length:Int)).drew;go_simp;refine(hPa q.st.rd).mono ?_;rintro e w10 ⟨ao10,cp10,vs10,i10,k10,a10,rfl,hx10,hK10,hl10,hP10,hz10,V10,hF10,m10⟩;have hV10:=hF10.len;replace q:=(q.holds hx10 hK10 hz10 hF10).up (g':=True) (fun _ e=>Nat.lt_of_le_of_lt q.le (hx10.go trivial e));have ok10:Hid (k10=0→_):=hx10.ok;clear hx10;replace F:=q.f2))
   all_goals
    go_wp2_with fail
    go_meet
    exact⟨(.slice ao11 (vs7.length+vs10.length) cp11),(vs7++vs10),i10,k10,a10,(by have:=hl7;have:=hl10;simp;omega),(fun e=>⟨vs7.map labOf,vs10.map labOf,List.map_append,by simp,hP7 (ok10.out e),hP10 e⟩),V10,m10,((q.p05 (.slice ao11 (vs7.length+vs10.length) cp11)).less (by omega))⟩
  case rest=>
   clear F q
   obtain⟨kv8,vs8,j9,k9,a9,hlen8,HC8,ps,mp,q⟩:=hcut
   obtain⟨w12,hw⟩:∃x,x=wc:=⟨_,rfl⟩
   subst hw
   have F:=q.f2
   obtain⟨ao13,cp13,rfl⟩:=q.shape
   replace F:=q.f2
   go_upto_region 10 with fail
   go_cut [] (fun wx=>∃(kv14:Value) (vs14:List (List Value)) (j15:Nat) (k15 a15:Int),vs14.length≤12005∧Hid (k15=0→∃cs ps x,vs14.map labOf=cs++(ps++[x])∧cs.length=vs7.length∧(∀c∈cs,c=47)∧(∀p∈ps,p=12)∧noK x)∧(∃(yr:List Nr),Ev (fun n=>gResult t (gG t n 0)) ⟨j9,k9,a9⟩ (yr,⟨j15,k15,a15⟩)∧Mf 1 w rb tb cap t i k True (-15) wx j15 k15 a15 [(sz w1,nodeC 46 (t.pos i) NN (vs7.length:Int) ⟨#[]⟩ kv14),(sz w,zeroC)] [] kv14 vs14 [] (V7++ps++[yr])))
   case first=>
    go_wp2_with fail
    go_region_law (first|(refine q.as (sz w16) (Nat.le_trans hlen8 (by decide)) ?_;clear q F;intro w17 ao17 cp17 q;have F:=q.f2)|(go_simp;refine q.drew.nn hRe ?_;clear q F;intro w16 x16 i16 k16 a16 y16 hc16 ok16 m16 q;have F:=q.f2))
    all_goals
     go_wp2_with fail
     go_meet
     exact⟨(.slice ao17 (vs8.length+1) cp17),(vs8++[x16.t]),i16,k16,a16,(by have:=hlen8;simp;omega),(fun e=>by obtain⟨cs,ps,h1,h2,h3,h4⟩:=HC8.out (ok16.out e);exact⟨cs,ps,_,by rw[List.map_append,h1,List.append_assoc];rfl,h2,h3,h4,(hc16 e).no⟩),y16,m16,((q.p05 (.slice ao17 (vs8.length+1) cp17)).less (by omega))⟩
   case rest=>
    clear F q
    obtain⟨kv14,vs14,j15,k15,a15,hlen14,HC14,yr,mr,q⟩:=hcut
    obtain⟨w18,hw⟩:∃x,x=wc:=⟨_,rfl⟩
    subst hw
    have F:=q.f2
    obtain⟨ao19,cp19,rfl⟩:=q.shape
    replace F:=q.f2
    go_wp2_with fail
    go_region_law (first|(refine q.as (sz w20) (Nat.le_trans hlen14 (by decide)) ?_;clear q F;intro w21 ao21 cp21 q;have F:=q.f2)|(replace q:=q.drew;go_simp;refine q.nd (hB · (q.bd HB.out (by decide))) ?_;clear q F;intro w20 x20 i20 k20 a20 y20 hc20 ok20 m20 q;have F:=q.f2))
    all_goals
     go_wp2_with fail
     go_light
     exact((q.p05 (.slice ao21 (vs14.length+1) cp21)).fo 46 (t.pos i) NN (vs7.length:Int) ⟨#[]⟩ (by have:=hlen14;simp;omega) hposI (hG:=fun e=>by obtain⟨cs,ps,x,h1,h2,h3,h4,h5⟩:=HC14.out (ok20.out e);exact Gr.of_clos ⟨cs,ps,x,_,by rw[List.map_append,h1,List.append_assoc,List.append_assoc];rfl,by rw[h2],h3,h4,h5,hc20 e⟩)).rt Tryz.results227 1 (by have hfin:nd 46 (t.pos i:Int) NN (V7.length:Int) E0 (V7++ps++[yr,y20])=nd 46 (t.pos i:Int) NN (vs7.length:Int) E0 (V7++ps++[yr]++[y20]):=(by rw[hV7.out];simp);unfold gClosure;exact evt)
end Go.Proofs.YtdplogkmkgekdaaGreatDoor
namespace Go.Proofs.YtdplogkmkgekdaaGreatDoor
open Go.RowKit
theorem blockF {N:Nat} (hX:exF 176 18 N (fun t n=>gG t n 1)) (hP:exF 175 10 N (fun t n=>gG t n 6)) (hL:exF 173 7 N (fun t n=>gLet t (gG t n 0) (gG t n 1))):exF 104 7 (N+1) (fun t n=>gBlock t (gLet t (gG t n 0) (gG t n 1)) (gG t n 1) (gG t n 6) n):=by
 intro w rb tb cap i t k a h hN
 have hl:=h.l
 have HN:Hid (Bd (N+1) t i k 7):=hN
 clear hN
 have hposI:(0:Int)≤(t.pos i:Int)∧(t.pos i:Int)≤7000:=by have:=h.good.posb i;omega
 go_enter Tryz.func104,Tryz.ntmps104
 have q:=Mf.start (wt:=1) h
 go_wp2_with fail
 refine(q.ne' (sz w) (zeroC)).lf (node20 · 42) ?_
 clear q
 intro w1 q
 have F:=q.f1
 go_wp2_with fail
 refine(q.ne' (sz w1) (nk 42 (t.pos i) nl)).wn (want39F · _) ?_
 clear q F
 intro w2 i2 k2 a2 ok2 m2 q
 have F:=q.f2
 go_wp2_with fail
 go_loopg [4,5] (ml t i2 k2) (fun g _ _ wr=>∃(v:Value) (vs:List (List Value)) (nn:Int) (j:Nat) (kj aj:Int),g=ml t j kj∧Few 4 vs j kj∧Hid (kj=0→∀x∈vs.map labOf,noK x)∧∃(V:List (List Nr)),Hid (∀r,EvL (fun n=>gBlockB t (gLet t (gG t n 0) (gG t n 1)) (gG t n 1) (gG t n 6)) (V,nn) ⟨j,kj,aj⟩ r→Ev (fun n=>gBlock t (gLet t (gG t n 0) (gG t n 1)) (gG t n 1) (gG t n 6) n) ⟨i,k,a⟩ (nd 42 (t.pos i:Int) r.1.2 0 E0 r.1.1,r.2))∧Mf 1 w rb tb cap t i k True (-16) wr j kj aj [(sz w1,nodeC 42 (t.pos i) nn 0 ⟨#[]⟩ v),(sz w,zeroC)] [] v vs [] V)
 case atStart=>exact⟨nl,[],0,i2,k2,a2,rfl,⟨fun _=>by simp,by simp⟩,(fun _ x hx=>by cases hx),_,(fun r hr=>(by unfold gBlock;exact evt)),(q.less (by omega))⟩
 case round=>
  clear F q
  obtain⟨v,vs,nn,j,kj,aj,hgk,hF,HC,V,HM,q⟩:=hrel
  have hj:=q.st.rd.lt
  have hposJ:(0:Int)≤(t.pos j:Int)∧(t.pos j:Int)≤7000:=by have:=h.good.posb j;omega
  have HG:Hid (gk=ml t j kj):=hgk
  clear hgk
  obtain⟨ao3,cp3,rfl⟩:=q.shape
  have F:=q.f2
  cases hk0:(kj==0)
  ·go_wp2_with fail
   refine q.lf ok21b ?_
   clear q F
   intro w4 q
   have F:=q.f2
   go_wp2_with fail
   go_light
   exact(q.fo 42 (t.pos i) nn 0 ⟨#[]⟩ (Nat.le_trans hF.2 (by decide)) hposI (hG:=fun e=>Gr.of_all (by decide) (HC.out e))).rt Tryz.results104 1 (HM.out ((_,_),_) (EvL.stop (by unfold gBlockB;exact evt)))
  ·obtain rfl:kj=0:=by simpa using hk0
   have HC0:Hid _:=HC.out rfl
   clear HC
   have hb1:Hid (i≤j∧k=0∧i<j):=⟨q.le,q.ok rfl,q.go trivial rfl⟩
   have HJ:Hid (∀i' k' r',j≤i'→r'<64→Bd N t i' k' r'):=fun i' k' r' h1 h2=>HN.out.any2 hb1.out.2.1 h.lt _ _ _ (fun _=>Nat.lt_of_lt_of_le hb1.out.2.2 h1) h2
   have hFl:vs.length≤6005:=by have:=hF.1 rfl;have:=h.good.few;omega
   replace q:=q.rebase
   go_wp2_with fail
   refine q.lf ok21b ?_
   clear q F
   intro w5 q
   have F:=q.f2
   go_wp2_with fail
   refine q.et (eat42 · _) ?_
   clear q F
   intro w6 b6 i6 hE6 m6 q
   have F:=q.f2
   go_wp2_with fail
   ·go_wp2_with fail
    refine q.lf (is41 · 0 (by decide) _) ?_
    clear q F
    intro w7 q
    have F:=q.f2
    go_wp2_with fail
    ·go_wp2_with fail
     go_region_law (first|(refine q.as (sz w8) (Nat.le_trans hFl (by decide)) ?_;clear q F;intro w9 ao9 cp9 q;have F:=q.f2)|(replace q:=q.drew;go_simp;refine q.nd (hL · (HJ.out _ _ _ q.le (by decide))) ?_;clear q F;intro w8 x8 i8 k8 a8 y8 hc8 ok8 m8 q;have F:=q.f2))
     all_goals
      go_wp2_with fail
      refine(q.p05 (.slice ao9 (vs.length+1) cp9)).wn (want39F · _) ?_
      clear q F
      intro w10 i10 k10 a10 ok10 m10 q
      have F:=q.f2
      go_wp2_with fail
      go_roundg (ml t i10 k10)
      case measure=>rw[HG.out];exact ml_lt hj q.le (q.go trivial)
      case rel=>exact⟨(.slice ao9 (vs.length+1) cp9),(vs++[x8.t]),nn,i10,k10,a10,rfl,Few.snoc (t:=t) hF rfl hj h.good (q.go trivial),(fun e=>by rw[List.map_append];exact all_snoc (HC0.out) (hc8 (ok10.out e))),_,(fun r hr=>HM.out r (EvL.on (by unfold gBlockB;exact evt) hr)),q.unbase (s':= -16) (g':=True) hb1.out.1 (fun _=>hb1.out.2.1) (fun _ _=>hb1.out.2.2) (by omega)⟩
    ·go_wp2_with fail
     refine(blockishF q.st.rd).mono ?_
     rintro e w11 ⟨bb11,rfl,HOB,hb11⟩
     replace q:=q.below hb11
     clear hb11
     replace F:=q.f2
     go_upto_if 30 with fail
     go_cut [4] (fun s4 wx=>∃(ob:Bool) (x12:Nf) (j13:Nat) (k13 a13:Int),s4=.bool ob∧Hid (k13=0→noK (labOf x12.t))∧(∃(yb:List Nr),Hid (BK t i6 0=ob)∧Ev (fun n=>cond (BK t i6 0) (gG t n 6) (gG t n 1)) ⟨i6,0,aj⟩ (yb,⟨j13,k13,a13⟩)∧Mf 1 w rb tb cap t j 0 True (16*((j:Int) - (i:Int))+(-24)) wx j13 k13 a13 [(sz w11,x12.a),(sz w1,nodeC 42 (t.pos i) nn 0 ⟨#[]⟩ (.slice ao3 vs.length cp3)),(sz w,zeroC)] [x12.t] (.slice ao3 vs.length cp3) vs [yb] V))
     case first=>
      go_wp2_with fail
      ·go_wp2_with fail
       replace q:=q.ne' (sz w11) (zeroC)
       refine q.nd (hP · (HJ.out _ _ _ q.le (by decide))) ?_
       clear q F
       intro w14 x14 i14 k14 a14 y14 hc14 ok14 m14 q
       have F:=q.f3
       go_wp2_with fail
       go_meet
       exact⟨true,x14,i14,k14,a14,rfl,hc14,y14,(by show BK t i6 0=true;exact HOB.out.trans ‹_›),(by exact evt),((q.pA0 x14.k x14.p x14.n x14.m x14.s x14.v).less (by omega))⟩
      ·go_wp2_with fail
       replace q:=q.ne' (sz w11) (zeroC)
       refine q.nd (hX · (HJ.out _ _ _ q.le (by decide))) ?_
       clear q F
       intro w15 x15 i15 k15 a15 y15 hc15 ok15 m15 q
       have F:=q.f3
       go_wp2_with fail
       go_meet
       exact⟨false,x15,i15,k15,a15,rfl,hc15,y15,(by show BK t i6 0=false;exact HOB.out.trans ‹_›),(by exact evt),((q.pA0 x15.k x15.p x15.n x15.m x15.s x15.v).less (by omega))⟩
     case rest=>
      clear F q
      obtain⟨ob,x12,j13,k13,a13,rfl,HX,yb,HOB,mm,q⟩:=hcut
      obtain⟨w16,hw⟩:∃x,x=wc:=⟨_,rfl⟩
      subst hw
      have F:=q.f3
      go_wp2_with (at_builtin;refine q.ap (sz w16) (Nat.le_trans hFl (by decide)) ?_;clear q F;intro w17 ao17 cp17 q;have F:=q.f3)
      go_wp2_with fail
      refine(q.p15 (.slice ao17 (vs.length+1) cp17)).et (eat42 · _) ?_
      clear q F
      intro w18 b18 i18 hE18 m18 q
      have F:=q.f3
      go_wp2_with fail
      ·go_wp2_with fail
       replace q:=q.pop
       go_roundg (ml t i18 k13)
       case measure=>rw[HG.out];exact ml_lt hj q.le (q.go trivial)
       case rel=>exact⟨(.slice ao17 (vs.length+1) cp17),(vs++[x12.t]),nn,i18,k13,a13,rfl,Few.snoc (t:=t) hF rfl hj h.good (q.go trivial),(fun e=>by rw[List.map_append];exact all_snoc (HC0.out) (HX.out e)),_,(fun r hr=>HM.out r (EvL.on (by unfold gBlockB;exact evt) hr)),q.unbase (s':= -16) (g':=True) hb1.out.1 (fun _=>hb1.out.2.1) (fun _ _=>hb1.out.2.2) (by omega)⟩
      ·go_wp2_with fail
       refine q.lf (is41 · 0 (by decide) _) ?_
       clear q F
       intro w19 q
       have F:=q.f3
       go_wp2_with fail
       ·go_wp2_with fail
        replace q:=(q.p12 1).pop
        go_roundg (ml t i18 k13)
        case measure=>rw[HG.out];exact ml_lt hj q.le (q.go trivial)
        case rel=>exact⟨(.slice ao17 (vs.length+1) cp17),(vs++[x12.t]),1,i18,k13,a13,rfl,Few.snoc (t:=t) hF rfl hj h.good (q.go trivial),(fun e=>by rw[List.map_append];exact all_snoc (HC0.out) (HX.out e)),_,(fun r hr=>HM.out r (EvL.on (by unfold gBlockB;exact evt) hr)),q.unbase (s':= -16) (g':=True) hb1.out.1 (fun _=>hb1.out.2.1) (fun _ _=>hb1.out.2.2) (by omega)⟩
       ·go_wp2_with fail
        refine(bad64F q.st.rd).mono ?_
        rintro e w20 ⟨rfl,⟨k20,a20,hk20,h20,m20⟩,hk20'⟩
        replace q:=((q.rk h20 hk20' (Nat.le_refl _) (fun e=>absurd e hk20)).up (g':=True) (fun _ e=>absurd e hk20)).dead (s':=(16*((j:Int) - (i:Int))+(-100))) hk20
        clear h20 hk20'
        replace F:=q.f3
        go_wp2_with fail
        replace q:=q.pop
        go_roundg (ml t i18 k20)
        case measure=>rw[HG.out];exact ml_lt hj q.le (q.go trivial)
        case rel=>exact⟨(.slice ao17 (vs.length+1) cp17),(vs++[x12.t]),nn,i18,k20,a20,rfl,Few.snoc (t:=t) hF rfl hj h.good (q.go trivial),(fun e=>absurd e hk20),_,(fun r hr=>HM.out r (EvL.on (by unfold gBlockB;exact evt) hr)),q.unbase (s':= -16) (g':=True) hb1.out.1 (fun _=>hb1.out.2.1) (fun _ _=>hb1.out.2.2) (by omega)⟩
       ·go_wp2_with fail
        replace q:=q.pop
        go_roundg (ml t i18 k13)
        case measure=>rw[HG.out];exact ml_lt hj q.le (q.go trivial)
        case rel=>exact⟨(.slice ao17 (vs.length+1) cp17),(vs++[x12.t]),nn,i18,k13,a13,rfl,Few.snoc (t:=t) hF rfl hj h.good (q.go trivial),(fun e=>by rw[List.map_append];exact all_snoc (HC0.out) (HX.out e)),_,(fun r hr=>HM.out r (EvL.on (by unfold gBlockB;exact evt) hr)),q.unbase (s':= -16) (g':=True) hb1.out.1 (fun _=>hb1.out.2.1) (fun _ _=>hb1.out.2.2) (by omega)⟩
   ·go_wp2_with fail
    go_light
    exact((q.fo 42 (t.pos i) nn 0 ⟨#[]⟩ (Nat.le_trans hF.2 (by decide)) hposI (hG:=fun e=>Gr.of_all (by decide) (HC0.out))).unbase (s':= -15) (g':=True) hb1.out.1 (fun _=>hb1.out.2.1) (fun _ _=>hb1.out.2.2) (by omega)).rt Tryz.results104 1 (HM.out ((_,_),_) (EvL.stop (by unfold gBlockB;exact evt)))
end Go.Proofs.YtdplogkmkgekdaaGreatDoor
namespace Go.Proofs.YtdplogkmkgekdaaGreatDoor
open Go.RowKit
theorem letF {N:Nat} (hT:∀N,tyF 1 N) (hX:exF 176 18 N (fun t n=>gG t n 1)):exF 173 7 (N+1) (fun t n=>gLet t (gG t n 0) (gG t n 1)):=by
 intro w rb tb cap i t k a h hN
 have hl:=h.l
 have HN:Hid (Bd (N+1) t i k 7):=hN
 clear hN
 have hposI:(0:Int)≤(t.pos i:Int)∧(t.pos i:Int)≤7000:=by have:=h.good.posb i;omega
 go_enter Tryz.func173,Tryz.ntmps173
 have q:=Mf.start (wt:=1) h
 go_wp2_with fail
 refine(q.ne' (sz w) (zeroC)).lf (node20 · 43) ?_
 clear q
 intro w1 q
 have F:=q.f1
 go_wp2_with fail
 refine(q.ne' (sz w1) (nk 43 (t.pos i) nl)).wn (want39F · _) ?_
 clear q F
 intro w2 i2 k2 a2 ok2 m2 q
 have F:=q.f2
 go_wp2_with fail
 refine q.et (eat42 · _) ?_
 clear q F
 intro w3 b3 i3 hE3 m3 q
 have F:=q.f2
 go_upto_if 9 with fail
 go_cut [] (fun wx=>∃(M:Int) (j4:Nat) (k4 a4:Int),Ev (fun _=>gMut t) ⟨i2,k2,a2⟩ (M,⟨j4,k4,a4⟩)∧Mf 1 w rb tb cap t i k True (-16) wx j4 k4 a4 [(sz w1,nodeC 43 (t.pos i) 0 M ⟨#[]⟩ nl),(sz w,zeroC)] [] nl [] [] [])
 case first=>
  go_wp2_with fail
  ·go_wp2_with fail
   go_meet
   exact⟨1,i3,k2,a2,(by unfold gMut;exact evt),((q.p03 1).less (by omega))⟩
  ·go_wp2_with fail
   go_meet
   exact⟨0,i3,k2,a2,(by unfold gMut;exact evt),(q.less (by omega))⟩
 case rest=>
  clear F q
  obtain⟨M,j4,k4,a4,m4,q⟩:=hcut
  obtain⟨w5,hw⟩:∃x,x=wc:=⟨_,rfl⟩
  subst hw
  have F:=q.f2
  go_wp2_with fail
  refine q.nm name40F ?_
  clear q F
  intro w6 s6 i6 k6 a6 hs6 ho6 ok6 m6 q
  have F:=q.f2
  go_wp2_with fail
  refine(q.p04 s6).et (eat42 · _) ?_
  clear q F
  intro w7 b7 i7 hE7 m7 q
  have F:=q.f2
  go_upto_if 15 with fail
  go_cut [] (fun wx=>∃(NN:Int) (kv:Value) (vs:List (List Value)) (FV:List (List Nr)) (j8:Nat) (k8 a8:Int),Hid ((NN=0∨NN=1)∧∀r,Ev (fun n=>bnd (gEat t ⟨#[61]⟩) (fun b=>cond b (bnd (gG t n 1) (fun z=>ret (nd 43 (t.pos i:Int) (NN+2) M s6 (FV++[z])))) (ret (nd 43 (t.pos i:Int) NN M s6 FV)))) ⟨j8,k8,a8⟩ r→Ev (fun n=>gLet t (gG t n 0) (gG t n 1)) ⟨i,k,a⟩ r)∧vs.length≤1∧Hid (k8=0→(∀x∈vs.map labOf,noK x)∧(NN=0∧vs.length=0∨NN=1∧vs.length=1))∧Mf 1 w rb tb cap t i k True (-32) wx j8 k8 a8 [(sz w1,nodeC 43 (t.pos i) NN M s6 kv),(sz w,zeroC)] [] kv vs [] FV)
  case first=>
   go_wp2_with fail
   ·go_wp2_with fail
    go_region_law (first|(refine q.as (sz w9) (by simp) ?_;clear q F;intro w10 ao10 cp10 q;have F:=q.f2)|(go_simp;refine(q.p02 1).drew.nd (hT _ · (bd_some _ _ _ 3)) ?_;clear q F;intro w9 x9 i9 k9 a9 y9 hc9 ok9 m9 q;have F:=q.f2))
    all_goals
     go_wp2_with fail
     go_meet
     exact⟨1,(.slice ao10 (0+1) cp10),([]++[x9.t]),[]++[y9],i9,k9,a9,⟨.inr rfl,fun r hr=>by(unfold gLet;(repeat' (first|with_reducible exact Ev.ret'|refine Ev.bnd' ev_at ?_|refine Ev.seq m2 ?_|refine Ev.bnd' m4 ?_|refine Ev.bnd' m6 ?_|refine Ev.bnd' m7 ?_|refine Ev.bnd' m9 ?_|refine Ev.yes ‹_› ?_|refine Ev.no ‹_› ?_));exact hr)⟩,(by simp),(fun e=>⟨(fun x hx=>(by have h9:x=labOf x9.t:=(by simpa using hx);rw[h9];exact(hc9 e).no)),.inr ⟨rfl,rfl⟩⟩),((q.p05 (.slice ao10 (0+1) cp10)).less (by omega))⟩
   ·go_wp2_with fail
    go_meet
    exact⟨0,nl,[],[],i7,k6,a6,⟨.inl rfl,fun r hr=>by(unfold gLet;(repeat' (first|with_reducible exact Ev.ret'|refine Ev.bnd' ev_at ?_|refine Ev.seq m2 ?_|refine Ev.bnd' m4 ?_|refine Ev.bnd' m6 ?_|refine Ev.bnd' m7 ?_|refine Ev.yes ‹_› ?_|refine Ev.no ‹_› ?_));exact hr)⟩,(by simp),(fun _=>⟨fun x hx=>(by cases hx),.inl ⟨rfl,rfl⟩⟩),(q.less (by omega))⟩
  case rest=>
   clear F q
   obtain⟨NN,kv,vs,FV,j8,k8,a8,HM,hlen,HC,q⟩:=hcut
   obtain⟨w11,hw⟩:∃x,x=wc:=⟨_,rfl⟩
   subst hw
   have F:=q.f2
   obtain⟨ao0,cp0,rfl⟩:=q.shape
   go_wp2_with fail
   refine q.et (eat42 · _) ?_
   clear q F
   intro w12 b12 i12 hE12 m12 q
   have F:=q.f2
   go_wp2_with fail
   ·have HK:Hid (k=0):=q.ok (hE12.yes ‹_›).2
    go_wp2_with fail
    go_region_law (first|(refine q.as (sz w13) (by omega) ?_;clear q F;intro w14 ao14 cp14 q;have F:=q.f2)|(replace q:=(q.p02 (wrap64 (NN+2))).drew;go_simp;refine q.nd (hX · (q.bd (HN.out.any2 HK.out h.lt) (by decide))) ?_;clear q F;intro w13 x13 i13 k13 a13 y13 hc13 ok13 m13 q;have F:=q.f2))
    all_goals
     go_wp2_with fail
     go_light
     exact((q.p05 (.slice ao14 (vs.length+1) cp14)).fo 43 (t.pos i) (wrap64 (NN+2)) M s6 (by first|(simp;omega)|omega) hposI (Nat.le_trans hs6 (by decide)) (hG:=fun e=>by obtain⟨h1,h2⟩:=HC.out (ok13.out e);refine Gr.of_elet ⟨by rw[List.map_append];exact all_snoc h1 (hc13 e),?_⟩;exact h2.elim (fun h=>.inr (.inl ⟨.inr (by rw[h.1];unfold wrap64;decide),by simp[h.2]⟩)) (fun h=>.inr (.inr ⟨by rw[h.1];unfold wrap64;decide,by simp[h.2]⟩)))).rt Tryz.results173 1 (HM.out.2 _ (Ev.bnd' m12 (Ev.yes ‹_› (Ev.bnd' m13 (Ev.ret (fun _=>by rw[wrap2 HM.out.1]))))))
   ·go_wp2_with fail
    go_light
    exact(q.fo 43 (t.pos i) NN M s6 (by first|(simp;omega)|omega) hposI (Nat.le_trans hs6 (by decide)) (hG:=fun e=>by obtain⟨h1,h2⟩:=HC.out e;refine Gr.of_elet ⟨h1,?_⟩;exact h2.elim (fun h=>.inl ⟨h.1,by simpa using h.2⟩) (fun h=>.inr (.inl ⟨.inl h.1,by simpa using h.2⟩)))).rt Tryz.results173 1 (HM.out.2 _ (Ev.bnd' m12 (Ev.no ‹_› Ev.ret')))
end Go.Proofs.YtdplogkmkgekdaaGreatDoor
namespace Go.Proofs.YtdplogkmkgekdaaGreatDoor
open Go.RowKit
theorem exprsF {N:Nat} (hX:exF 176 18 N (fun t n=>gG t n 1)):exsF 209 19 (N+1) (fun t n=>gList t (gG t n 1) ⟨#[41]⟩ n):=by
 intro w rb tb cap i t k a h hN
 have hl:=h.l
 have HN:Hid (Bd (N+1) t i k 19):=hN
 clear hN
 go_enter Tryz.func209,Tryz.ntmps209
 have q:=Mf.start (wt:=1) h
 go_wp2_with fail
 refine q.et (eat42 · _) ?_
 clear q
 intro w1 b1 i1 hE1 m1 q
 go_wp2_with fail
 ·go_wp2_with fail
  go_ret
  exact Mf.post (d:=0) (q.up (g':=True) (fun _ _=>by have:=(hE1.yes ‹_›).1;omega)) (fun _=>trivial) (by simp) (fun _ x hx=>by cases hx) (by omega) (by unfold gList;unfold gRow;exact evt)
 ·obtain rfl:b1=false:= ‹_›
  go_wp2_with fail
  go_loopg [3] (ml t i1 k) (fun g v wr=>∃(vs:List (List Value)) (j:Nat) (kj aj:Int),g=ml t j kj∧Few 0 vs j kj∧(kj=0→(fun ks=>∀x∈ks,noK x) (vs.map labOf))∧∃(V:List (List Nr)),Hid (∀r,EvL (fun n=>gRowB t (gG t n 1) ⟨#[41]⟩) V ⟨j,kj,aj⟩ r→Ev (fun n=>gList t (gG t n 1) ⟨#[41]⟩ n) ⟨i,k,a⟩ r)∧Mf 1 w rb tb cap t i k False (0) wr j kj aj [] [] v vs [] V)
  case atStart=>exact⟨[],i1,k,a,rfl,⟨fun _=>by simp,by simp⟩,(fun e=>(fun x hx=>by cases hx)),_,(fun r hr=>(by unfold gList;unfold gRow;exact evt)),(q.up (fun x=>x.elim)).less (by omega)⟩
  case round=>
   clear q
   obtain⟨vs,j,kj,aj,hgk,hF,hC0,V,HM,q⟩:=hrel
   have HC:Hid (kj=0→(fun ks=>∀x∈ks,noK x) (vs.map labOf)):=hC0
   clear hC0
   have hj:=q.st.rd.lt
   have hposJ:(0:Int)≤(t.pos j:Int)∧(t.pos j:Int)≤7000:=by have:=h.good.posb j;omega
   have HG:Hid (gk=ml t j kj):=hgk
   clear hgk
   obtain⟨ao2,cp2,rfl⟩:=q.shape
   cases hk0:(kj==0)
   ·go_wp2_with fail
    refine q.lf ok21b ?_
    clear q
    intro w3 q
    go_wp2_with fail
    go_ret
    exact Mf.post (d:=0) (q.up (g':=True) (fun _ e=>absurd e (by simpa using hk0))) (fun _=>trivial) hF.2 (fun e=>absurd e (by simpa using hk0)) (by omega) (HM.out _ (EvL.stop (by unfold gRowB;exact evt)))
   ·obtain rfl:kj=0:=by simpa using hk0
    have hb1:Hid (i≤j∧k=0):=⟨q.le,q.ok rfl⟩
    replace HC:Hid ((fun ks=>∀x∈ks,noK x) (vs.map labOf)):=HC.out rfl
    have HJ:Hid (∀i' k',j≤i'→Bd N t i' k' 18):=fun i' k' h1=>HN.out.down (Nat.le_trans q.le h1) (fun _=>q.ok rfl) (by decide)
    have hFl:vs.length≤6001:=by have:=hF.1 rfl;have:=h.good.few;omega
    replace q:Mf 1 w rb tb cap t j 0 False (16*((j:Int) - (i:Int))+(0)) wr j 0 aj [] [] (.slice ao2 vs.length cp2) vs [] V:=q.rebase.less (by omega)
    go_wp2_with fail
    refine q.lf ok21b ?_
    clear q
    intro w4 q
    go_wp2_with fail
    refine q.nd (hX · (HJ.out _ _ q.le)) ?_
    clear q
    intro w5 x5 i5 k5 a5 y5 hc5 ok5 m5 q
    go_wp2_with (at_builtin;refine q.ap (sz w5) (Nat.le_trans hFl (by decide)) ?_;clear q;intro w6 ao6 cp6 q)
    go_wp2_with fail
    refine q.et (eat42 · _) ?_
    clear q
    intro w7 b7 i7 hE7 m7 q
    go_wp2_with fail
    ·go_wp2_with fail
     go_ret
     exact Mf.post (d:=0) ((q.unbase (i':=i) (k':=k) (g':=False) (s':= -8) hb1.out.1 (fun _=>hb1.out.2) (fun x=>x.elim) (by omega)).up (g':=True) (fun _ e=>Nat.lt_of_le_of_lt hb1.out.1 (q.go trivial e))) (fun _=>trivial) (by have h1:=hF.1 rfl;have h2:=h.good.few;simp only[List.length_append,List.length_cons,List.length_nil];omega) (fun e=>by rw[List.map_append];exact all_snoc HC.out (hc5 e)) (by omega) (HM.out _ (EvL.stop (by unfold gRowB;exact evt)))
    ·go_wp2_with fail
     refine q.wn (want39F · _) ?_
     clear q
     intro w8 i8 k8 a8 ok8 m8 q
     go_wp2_with fail
     go_roundg (ml t i8 k8)
     case measure=>rw[HG.out];exact ml_lt hj q.le (q.go trivial)
     case rel=>exact⟨(vs++[x5.t]),i8,k8,a8,rfl,Few.snoc (t:=t) hF rfl hj h.good (q.go trivial),(fun e=>by rw[List.map_append];exact all_snoc HC.out (hc5 (ok8.out e))),_,(fun r hr=>HM.out r (EvL.on (by unfold gRowB;exact evt) hr)),q.unbase (s':=0) hb1.out.1 (fun _=>hb1.out.2) (fun x=>x.elim) (by omega)⟩
end Go.Proofs.YtdplogkmkgekdaaGreatDoor
namespace Go.Proofs.YtdplogkmkgekdaaGreatDoor
open Go.RowKit
theorem patsF {N:Nat} (hX:exF 242 3 N (fun t n=>gG t n 5)):exsF 258 4 (N+1) (fun t n=>gList t (gG t n 5) ⟨#[41]⟩ n):=by
 intro w rb tb cap i t k a h hN
 have hl:=h.l
 have HN:Hid (Bd (N+1) t i k 4):=hN
 clear hN
 go_enter Tryz.func258,Tryz.ntmps258
 have q:=Mf.start (wt:=1) h
 go_wp2_with fail
 refine q.et (eat42 · _) ?_
 clear q
 intro w1 b1 i1 hE1 m1 q
 go_wp2_with fail
 ·go_wp2_with fail
  go_ret
  exact Mf.post (d:=0) (q.up (g':=True) (fun _ _=>by have:=(hE1.yes ‹_›).1;omega)) (fun _=>trivial) (by simp) (fun _ x hx=>by cases hx) (by omega) (by unfold gList;unfold gRow;exact evt)
 ·obtain rfl:b1=false:= ‹_›
  go_wp2_with fail
  go_loopg [3] (ml t i1 k) (fun g v wr=>∃(vs:List (List Value)) (j:Nat) (kj aj:Int),g=ml t j kj∧Few 0 vs j kj∧(kj=0→(fun ks=>∀x∈ks,noK x) (vs.map labOf))∧∃(V:List (List Nr)),Hid (∀r,EvL (fun n=>gRowB t (gG t n 5) ⟨#[41]⟩) V ⟨j,kj,aj⟩ r→Ev (fun n=>gList t (gG t n 5) ⟨#[41]⟩ n) ⟨i,k,a⟩ r)∧Mf 1 w rb tb cap t i k False (0) wr j kj aj [] [] v vs [] V)
  case atStart=>exact⟨[],i1,k,a,rfl,⟨fun _=>by simp,by simp⟩,(fun e=>(fun x hx=>by cases hx)),_,(fun r hr=>(by unfold gList;unfold gRow;exact evt)),(q.up (fun x=>x.elim)).less (by omega)⟩
  case round=>
   clear q
   obtain⟨vs,j,kj,aj,hgk,hF,hC0,V,HM,q⟩:=hrel
   have HC:Hid (kj=0→(fun ks=>∀x∈ks,noK x) (vs.map labOf)):=hC0
   clear hC0
   have hj:=q.st.rd.lt
   have hposJ:(0:Int)≤(t.pos j:Int)∧(t.pos j:Int)≤7000:=by have:=h.good.posb j;omega
   have HG:Hid (gk=ml t j kj):=hgk
   clear hgk
   obtain⟨ao2,cp2,rfl⟩:=q.shape
   cases hk0:(kj==0)
   ·go_wp2_with fail
    refine q.lf ok21b ?_
    clear q
    intro w3 q
    go_wp2_with fail
    go_ret
    exact Mf.post (d:=0) (q.up (g':=True) (fun _ e=>absurd e (by simpa using hk0))) (fun _=>trivial) hF.2 (fun e=>absurd e (by simpa using hk0)) (by omega) (HM.out _ (EvL.stop (by unfold gRowB;exact evt)))
   ·obtain rfl:kj=0:=by simpa using hk0
    have hb1:Hid (i≤j∧k=0):=⟨q.le,q.ok rfl⟩
    replace HC:Hid ((fun ks=>∀x∈ks,noK x) (vs.map labOf)):=HC.out rfl
    have HJ:Hid (∀i' k',j≤i'→Bd N t i' k' 3):=fun i' k' h1=>HN.out.down (Nat.le_trans q.le h1) (fun _=>q.ok rfl) (by decide)
    have hFl:vs.length≤6001:=by have:=hF.1 rfl;have:=h.good.few;omega
    replace q:Mf 1 w rb tb cap t j 0 False (16*((j:Int) - (i:Int))+(0)) wr j 0 aj [] [] (.slice ao2 vs.length cp2) vs [] V:=q.rebase.less (by omega)
    go_wp2_with fail
    refine q.lf ok21b ?_
    clear q
    intro w4 q
    go_wp2_with fail
    refine q.nd (hX · (HJ.out _ _ q.le)) ?_
    clear q
    intro w5 x5 i5 k5 a5 y5 hc5 ok5 m5 q
    go_wp2_with (at_builtin;refine q.ap (sz w5) (Nat.le_trans hFl (by decide)) ?_;clear q;intro w6 ao6 cp6 q)
    go_wp2_with fail
    refine q.et (eat42 · _) ?_
    clear q
    intro w7 b7 i7 hE7 m7 q
    go_wp2_with fail
    ·go_wp2_with fail
     go_ret
     exact Mf.post (d:=0) ((q.unbase (i':=i) (k':=k) (g':=False) (s':= -8) hb1.out.1 (fun _=>hb1.out.2) (fun x=>x.elim) (by omega)).up (g':=True) (fun _ e=>Nat.lt_of_le_of_lt hb1.out.1 (q.go trivial e))) (fun _=>trivial) (by have h1:=hF.1 rfl;have h2:=h.good.few;simp only[List.length_append,List.length_cons,List.length_nil];omega) (fun e=>by rw[List.map_append];exact all_snoc HC.out (hc5 e)) (by omega) (HM.out _ (EvL.stop (by unfold gRowB;exact evt)))
    ·go_wp2_with fail
     refine q.wn (want39F · _) ?_
     clear q
     intro w8 i8 k8 a8 ok8 m8 q
     go_wp2_with fail
     go_roundg (ml t i8 k8)
     case measure=>rw[HG.out];exact ml_lt hj q.le (q.go trivial)
     case rel=>exact⟨(vs++[x5.t]),i8,k8,a8,rfl,Few.snoc (t:=t) hF rfl hj h.good (q.go trivial),(fun e=>by rw[List.map_append];exact all_snoc HC.out (hc5 (ok8.out e))),_,(fun r hr=>HM.out r (EvL.on (by unfold gRowB;exact evt) hr)),q.unbase (s':=0) hb1.out.1 (fun _=>hb1.out.2) (fun x=>x.elim) (by omega)⟩
end Go.Proofs.YtdplogkmkgekdaaGreatDoor
