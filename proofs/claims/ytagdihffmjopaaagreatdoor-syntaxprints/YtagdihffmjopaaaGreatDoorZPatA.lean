/- Patterns, one way of them. -/
import Derived.Test.YtagdihffmjopaaaGreatDoorApp
import Derived.Test.YtagdihffmjopaaaGreatDoorMzg
namespace Go.Proofs.YtagdihffmjopaaaGreatDoor
set_option linter.all false
open Go.RowKit
set_option maxRecDepth 100000 in
set_option maxHeartbeats 1000000 in
theorem closureZ {N:Nat} (hCa:liQ 122 True fun ks=>∀x∈ks,x=47) (hPa:liQ 81 True fun ks=>∀x∈ks,x=12) (hRe:noQ 1 82 False (-1) tyK) (hB:exZ 45 7 N):exKZ 121 8 (N+1):=by
 intro w rb tb cap i t a h hN
 obtain⟨k,hk⟩:∃k:Int,k=0:=⟨_,rfl⟩
 rw[←hk] at h hN⊢
 have HK:Hid (k=0):=hk
 clear hk
 have hl:=h.l
 have HN:Hid (Bd (N+1) t i k 8):=hN
 clear hN
 have HB:Hid (∀i' k' r',(k'=0→i<i')→r'<64→Bd N t i' k' r'):=HN.out.any2 HK.out h.lt
 have hposI:(0:Int)≤(t.pos i:Int)∧(t.pos i:Int)≤7000:=by have:=h.good.posb i;omega
 go_enter Tryz.func121,Tryz.ntmps121
 have q:=Mz.start (wt:=1) h
 go_wp2_with fail
 refine(q.ne' (sz w) (zeroC)).lf (node20 · 46) ?_
 clear q
 intro w1 q
 have F:=q.f1
 go_wp2_with fail
 refine(q.ne' (sz w1) (nk 46 (t.pos i) nl)).wn (want39 · _) ?_
 clear q F
 intro w2 i2 k2 a2 ok2 q
 have F:=q.f2
 go_wp2_with fail
 refine q.et (eat42 · _) ?_
 clear q F
 intro w3 b3 i3 hE3 q
 have F:=q.f2
 go_upto_if 9 with fail
 go_cut [] (fun wx=>∃(NN:Int) (j4:Nat) (k4 a4:Int),Mz 1 w rb tb cap t i k True (-16) wx j4 k4 a4 [(sz w1,nodeC 46 (t.pos i) NN 0 ⟨#[]⟩ nl),(sz w,zeroC)] [] nl [])
 case first=>
  go_wp2_with fail
  ·go_wp2_with fail
   go_meet
   exact⟨1,i3,k2,a2,((q.p02 1).less (by omega))⟩
  ·go_wp2_with fail
   refine q.et (eat42 · _) ?_
   clear q F
   intro w5 b5 i5 hE5 q
   have F:=q.f2
   go_wp2_with fail
   ·go_wp2_with fail
    go_meet
    exact⟨2,i5,k2,a2,((q.p02 2).less (by omega))⟩
   ·go_wp2_with fail
    go_meet
    exact⟨0,i5,k2,a2,(q.less (by omega))⟩
 case rest=>
  clear F q
  obtain⟨NN,j4,k4,a4,q⟩:=hcut
  obtain⟨w6,hw⟩:∃x,x=wc:=⟨_,rfl⟩
  subst hw
  have F:=q.f2
  go_wp2_with fail
  refine q.li hCa ?_
  clear q F
  intro w7 ao7 cp7 vs7 i7 k7 a7 hl7 hP7 ok7 q
  have F:=q.f2
  go_upto_region 9 with fail
  go_cut [] (fun wx=>∃(kv8:Value) (vs8:List (List Value)) (j9:Nat) (k9 a9:Int),vs8.length≤12004∧Hid (k9=0→∃cs ps,vs8.map labOf=cs++ps∧cs.length=vs7.length∧(∀c∈cs,c=47)∧∀p∈ps,p=12)∧Mz 1 w rb tb cap t i k True (-16) wx j9 k9 a9 [(sz w1,nodeC 46 (t.pos i) NN (vs7.length:Int) ⟨#[]⟩ kv8),(sz w,zeroC)] [] kv8 vs8)
  case first=>
   go_wp2_with fail
   go_region_law (first|(refine step_run (v:=(.slice ao7 vs7.length cp7)) (xv:=(.slice ao10 vs10.length cp10)) (R:=fun vv ww=>∃ao11 cp11,vv=(.slice ao11 (vs7.length+vs10.length) cp11)∧Mz 1 w rb tb cap t i k True (-16) ww i10 k10 a10 [(sz w1,nodeC 46 (t.pos i) NN (vs7.length:Int) ⟨#[]⟩ (.slice ao7 vs7.length cp7)),(sz w,zeroC)] [] (.slice ao11 (vs7.length+vs10.length) cp11) (vs7++vs10)) (by rfl) (by rfl) (by rfl) (by rfl) (Mz.run_apps (us:=vs10) q hK10 (Nat.le_trans hl7 (by decide)) (Nat.le_trans hl10 (by decide)) _) ?_;rintro v' w11 ⟨ao11,cp11,rfl,q'⟩;replace q:=q';clear hK10 q';replace F:=q.f2)|(replace q:=((q.p05 (.slice ao7 vs7.length cp7)).p03 (vs7.length:Int)).drew;go_simp;refine(hPa q.st.rd).mono ?_;rintro e w10 ⟨ao10,cp10,vs10,i10,k10,a10,rfl,hx10,hK10,hl10,hP10,hz10⟩;replace q:=(q.holds hx10 hK10 hz10).up (g':=True) (fun _ e=>Nat.lt_of_le_of_lt q.le (hx10.go trivial e));have ok10:Hid (k10=0→_):=hx10.ok;clear hx10;replace F:=q.f2))
   all_goals
    go_wp2_with fail
    go_meet
    exact⟨(.slice ao11 (vs7.length+vs10.length) cp11),(vs7++vs10),i10,k10,a10,(by have:=hl7;have:=hl10;simp;omega),(fun e=>⟨vs7.map labOf,vs10.map labOf,List.map_append,by simp,hP7 (ok10.out e),hP10 e⟩),((q.p05 (.slice ao11 (vs7.length+vs10.length) cp11)).less (by omega))⟩
  case rest=>
   clear F q
   obtain⟨kv8,vs8,j9,k9,a9,hlen8,HC8,q⟩:=hcut
   obtain⟨w12,hw⟩:∃x,x=wc:=⟨_,rfl⟩
   subst hw
   have F:=q.f2
   obtain⟨ao13,cp13,rfl⟩:=q.shape
   replace F:=q.f2
   go_upto_region 10 with fail
   go_cut [] (fun wx=>∃(kv14:Value) (vs14:List (List Value)) (j15:Nat) (k15 a15:Int),vs14.length≤12005∧Hid (k15=0→∃cs ps x,vs14.map labOf=cs++(ps++[x])∧cs.length=vs7.length∧(∀c∈cs,c=47)∧(∀p∈ps,p=12)∧noK x)∧Mz 1 w rb tb cap t i k True (-15) wx j15 k15 a15 [(sz w1,nodeC 46 (t.pos i) NN (vs7.length:Int) ⟨#[]⟩ kv14),(sz w,zeroC)] [] kv14 vs14)
   case first=>
    go_wp2_with fail
    go_region_law (first|(refine q.as (sz w16) (Nat.le_trans hlen8 (by decide)) ?_;clear q F;intro w17 ao17 cp17 q;have F:=q.f2)|(go_simp;refine q.drew.nn hRe ?_;clear q F;intro w16 x16 i16 k16 a16 hc16 ok16 q;have F:=q.f2))
    all_goals
     go_wp2_with fail
     go_meet
     exact⟨(.slice ao17 (vs8.length+1) cp17),(vs8++[x16.t]),i16,k16,a16,(by have:=hlen8;simp;omega),(fun e=>by obtain⟨cs,ps,h1,h2,h3,h4⟩:=HC8.out (ok16.out e);exact⟨cs,ps,_,by rw[List.map_append,h1,List.append_assoc];rfl,h2,h3,h4,(hc16 e).no⟩),((q.p05 (.slice ao17 (vs8.length+1) cp17)).less (by omega))⟩
   case rest=>
    clear F q
    obtain⟨kv14,vs14,j15,k15,a15,hlen14,HC14,q⟩:=hcut
    obtain⟨w18,hw⟩:∃x,x=wc:=⟨_,rfl⟩
    subst hw
    have F:=q.f2
    obtain⟨ao19,cp19,rfl⟩:=q.shape
    replace F:=q.f2
    go_wp2_with fail
    go_region_law (first|(refine q.as (sz w20) (Nat.le_trans hlen14 (by decide)) ?_;clear q F;intro w21 ao21 cp21 q;have F:=q.f2)|(replace q:=q.drew;go_simp;refine q.nd (hB · (q.bd HB.out (by decide))) ?_;clear q F;intro w20 x20 i20 k20 a20 hc20 ok20 q;have F:=q.f2))
    all_goals
     go_wp2_with fail
     go_light
     exact((q.p05 (.slice ao21 (vs14.length+1) cp21)).fo 46 (t.pos i) NN (vs7.length:Int) ⟨#[]⟩ (by have:=hlen14;simp;omega) hposI (hG:=fun e=>by obtain⟨cs,ps,x,h1,h2,h3,h4,h5⟩:=HC14.out (ok20.out e);exact Gr.of_clos ⟨cs,ps,x,_,by rw[List.map_append,h1,List.append_assoc,List.append_assoc];rfl,by rw[h2],h3,h4,h5,hc20 e⟩)).rt Tryz.results121 1
end Go.Proofs.YtagdihffmjopaaaGreatDoor
namespace Go.Proofs.YtagdihffmjopaaaGreatDoor
set_option linter.all false
open Go.RowKit
set_option maxRecDepth 100000 in
set_option maxHeartbeats 1000000 in
theorem blockZ {N:Nat} (hX:exZ 86 18 N) (hP:exZ 85 10 N) (hL:exZ 83 7 N):exZ 45 7 (N+1):=by
 intro w rb tb cap i t k a h hN
 have hl:=h.l
 have HN:Hid (Bd (N+1) t i k 7):=hN
 clear hN
 have hposI:(0:Int)≤(t.pos i:Int)∧(t.pos i:Int)≤7000:=by have:=h.good.posb i;omega
 go_enter Tryz.func45,Tryz.ntmps45
 have q:=Mz.start (wt:=1) h
 go_wp2_with fail
 refine(q.ne' (sz w) (zeroC)).lf (node20 · 42) ?_
 clear q
 intro w1 q
 have F:=q.f1
 go_wp2_with fail
 refine(q.ne' (sz w1) (nk 42 (t.pos i) nl)).wn (want39 · _) ?_
 clear q F
 intro w2 i2 k2 a2 ok2 q
 have F:=q.f2
 go_wp2_with fail
 go_loopg [4,5] (ml t i2 k2) (fun g _ _ wr=>∃(v:Value) (vs:List (List Value)) (nn:Int) (j:Nat) (kj aj:Int),g=ml t j kj∧Few 4 vs j kj∧Hid (kj=0→∀x∈vs.map labOf,noK x)∧Mz 1 w rb tb cap t i k True (-16) wr j kj aj [(sz w1,nodeC 42 (t.pos i) nn 0 ⟨#[]⟩ v),(sz w,zeroC)] [] v vs)
 case atStart=>exact⟨nl,[],0,i2,k2,a2,rfl,⟨fun _=>by simp,by simp⟩,(fun _ x hx=>by cases hx),(q.less (by omega))⟩
 case round=>
  clear F q
  obtain⟨v,vs,nn,j,kj,aj,hgk,hF,HC,q⟩:=hrel
  have hj:=q.st.rd.lt
  have hposJ:(0:Int)≤(t.pos j:Int)∧(t.pos j:Int)≤7000:=by have:=h.good.posb j;omega
  have HG:Hid (gk=ml t j kj):=hgk
  clear hgk
  obtain⟨ao3,cp3,rfl⟩:=q.shape
  have F:=q.f2
  cases hk0:(kj==0)
  ·go_wp2_with fail
   refine q.lf ok21b ?_
   clear q F
   intro w4 q
   have F:=q.f2
   go_wp2_with fail
   go_light
   exact(q.fo 42 (t.pos i) nn 0 ⟨#[]⟩ (Nat.le_trans hF.2 (by decide)) hposI (hG:=fun e=>Gr.of_all (by decide) (HC.out e))).rt Tryz.results45 1
  ·obtain rfl:kj=0:=by simpa using hk0
   have HC0:Hid _:=HC.out rfl
   clear HC
   have hb1:Hid (i≤j∧k=0∧i<j):=⟨q.le,q.ok rfl,q.go trivial rfl⟩
   have HJ:Hid (∀i' k' r',j≤i'→r'<64→Bd N t i' k' r'):=fun i' k' r' h1 h2=>HN.out.any2 hb1.out.2.1 h.lt _ _ _ (fun _=>Nat.lt_of_lt_of_le hb1.out.2.2 h1) h2
   have hFl:vs.length≤6005:=by have:=hF.1 rfl;have:=h.good.few;omega
   replace q:=q.rebase
   go_wp2_with fail
   refine q.lf ok21b ?_
   clear q F
   intro w5 q
   have F:=q.f2
   go_wp2_with fail
   refine q.et (eat42 · _) ?_
   clear q F
   intro w6 b6 i6 hE6 q
   have F:=q.f2
   go_wp2_with fail
   ·go_wp2_with fail
    refine q.lf (is41 · 0 (by decide) _) ?_
    clear q F
    intro w7 q
    have F:=q.f2
    go_wp2_with fail
    ·go_wp2_with fail
     go_region_law (first|(refine q.as (sz w8) (Nat.le_trans hFl (by decide)) ?_;clear q F;intro w9 ao9 cp9 q;have F:=q.f2)|(replace q:=q.drew;go_simp;refine q.nd (hL · (HJ.out _ _ _ q.le (by decide))) ?_;clear q F;intro w8 x8 i8 k8 a8 hc8 ok8 q;have F:=q.f2))
     all_goals
      go_wp2_with fail
      refine(q.p05 (.slice ao9 (vs.length+1) cp9)).wn (want39 · _) ?_
      clear q F
      intro w10 i10 k10 a10 ok10 q
      have F:=q.f2
      go_wp2_with fail
      go_roundg (ml t i10 k10)
      case measure=>rw[HG.out];exact ml_lt hj q.le (q.go trivial)
      case rel=>exact⟨(.slice ao9 (vs.length+1) cp9),(vs++[x8.t]),nn,i10,k10,a10,rfl,Few.snoc (t:=t) hF rfl hj h.good (q.go trivial),(fun e=>by rw[List.map_append];exact all_snoc (HC0.out) (hc8 (ok10.out e))),q.unbase (s':= -16) (g':=True) hb1.out.1 (fun _=>hb1.out.2.1) (fun _ _=>hb1.out.2.2) (by omega)⟩
    ·go_wp2_with fail
     refine(blockish86 q.st.rd).mono ?_
     rintro e w11 ⟨⟨bb11,rfl⟩,hb11⟩
     replace q:=q.below hb11
     clear hb11
     replace F:=q.f2
     go_upto_if 30 with fail
     go_cut [4] (fun s4 wx=>∃(ob:Bool) (x12:Nf) (j13:Nat) (k13 a13:Int),s4=.bool ob∧Hid (k13=0→noK (labOf x12.t))∧Mz 1 w rb tb cap t j 0 True (16*((j:Int) - (i:Int))+(-24)) wx j13 k13 a13 [(sz w11,x12.a),(sz w1,nodeC 42 (t.pos i) nn 0 ⟨#[]⟩ (.slice ao3 vs.length cp3)),(sz w,zeroC)] [x12.t] (.slice ao3 vs.length cp3) vs)
     case first=>
      go_wp2_with fail
      ·go_wp2_with fail
       replace q:=q.ne' (sz w11) (zeroC)
       refine q.nd (hP · (HJ.out _ _ _ q.le (by decide))) ?_
       clear q F
       intro w14 x14 i14 k14 a14 hc14 ok14 q
       have F:=q.f3
       go_wp2_with fail
       go_meet
       exact⟨true,x14,i14,k14,a14,rfl,hc14,((q.pA0 x14.k x14.p x14.n x14.m x14.s x14.v).less (by omega))⟩
      ·go_wp2_with fail
       replace q:=q.ne' (sz w11) (zeroC)
       refine q.nd (hX · (HJ.out _ _ _ q.le (by decide))) ?_
       clear q F
       intro w15 x15 i15 k15 a15 hc15 ok15 q
       have F:=q.f3
       go_wp2_with fail
       go_meet
       exact⟨false,x15,i15,k15,a15,rfl,hc15,((q.pA0 x15.k x15.p x15.n x15.m x15.s x15.v).less (by omega))⟩
     case rest=>
      clear F q
      obtain⟨ob,x12,j13,k13,a13,rfl,HX,q⟩:=hcut
      obtain⟨w16,hw⟩:∃x,x=wc:=⟨_,rfl⟩
      subst hw
      have F:=q.f3
      go_wp2_with (at_builtin;refine q.ap (sz w16) (Nat.le_trans hFl (by decide)) ?_;clear q F;intro w17 ao17 cp17 q;have F:=q.f3)
      go_wp2_with fail
      refine(q.p15 (.slice ao17 (vs.length+1) cp17)).et (eat42 · _) ?_
      clear q F
      intro w18 b18 i18 hE18 q
      have F:=q.f3
      go_wp2_with fail
      ·go_wp2_with fail
       replace q:=q.pop
       go_roundg (ml t i18 k13)
       case measure=>rw[HG.out];exact ml_lt hj q.le (q.go trivial)
       case rel=>exact⟨(.slice ao17 (vs.length+1) cp17),(vs++[x12.t]),nn,i18,k13,a13,rfl,Few.snoc (t:=t) hF rfl hj h.good (q.go trivial),(fun e=>by rw[List.map_append];exact all_snoc (HC0.out) (HX.out e)),q.unbase (s':= -16) (g':=True) hb1.out.1 (fun _=>hb1.out.2.1) (fun _ _=>hb1.out.2.2) (by omega)⟩
      ·go_wp2_with fail
       refine q.lf (is41 · 0 (by decide) _) ?_
       clear q F
       intro w19 q
       have F:=q.f3
       go_wp2_with fail
       ·go_wp2_with fail
        replace q:=(q.p12 1).pop
        go_roundg (ml t i18 k13)
        case measure=>rw[HG.out];exact ml_lt hj q.le (q.go trivial)
        case rel=>exact⟨(.slice ao17 (vs.length+1) cp17),(vs++[x12.t]),1,i18,k13,a13,rfl,Few.snoc (t:=t) hF rfl hj h.good (q.go trivial),(fun e=>by rw[List.map_append];exact all_snoc (HC0.out) (HX.out e)),q.unbase (s':= -16) (g':=True) hb1.out.1 (fun _=>hb1.out.2.1) (fun _ _=>hb1.out.2.2) (by omega)⟩
       ·go_wp2_with fail
        refine(bad64 q.st.rd).mono ?_
        rintro e w20 ⟨rfl,⟨k20,a20,hk20,h20⟩,hk20'⟩
        replace q:=((q.rk h20 hk20' (Nat.le_refl _) (fun e=>absurd e hk20)).up (g':=True) (fun _ e=>absurd e hk20)).dead (s':=(16*((j:Int) - (i:Int))+(-100))) hk20
        clear h20 hk20'
        replace F:=q.f3
        go_wp2_with fail
        replace q:=q.pop
        go_roundg (ml t i18 k20)
        case measure=>rw[HG.out];exact ml_lt hj q.le (q.go trivial)
        case rel=>exact⟨(.slice ao17 (vs.length+1) cp17),(vs++[x12.t]),nn,i18,k20,a20,rfl,Few.snoc (t:=t) hF rfl hj h.good (q.go trivial),(fun e=>absurd e hk20),q.unbase (s':= -16) (g':=True) hb1.out.1 (fun _=>hb1.out.2.1) (fun _ _=>hb1.out.2.2) (by omega)⟩
       ·go_wp2_with fail
        replace q:=q.pop
        go_roundg (ml t i18 k13)
        case measure=>rw[HG.out];exact ml_lt hj q.le (q.go trivial)
        case rel=>exact⟨(.slice ao17 (vs.length+1) cp17),(vs++[x12.t]),nn,i18,k13,a13,rfl,Few.snoc (t:=t) hF rfl hj h.good (q.go trivial),(fun e=>by rw[List.map_append];exact all_snoc (HC0.out) (HX.out e)),q.unbase (s':= -16) (g':=True) hb1.out.1 (fun _=>hb1.out.2.1) (fun _ _=>hb1.out.2.2) (by omega)⟩
   ·go_wp2_with fail
    go_light
    exact((q.fo 42 (t.pos i) nn 0 ⟨#[]⟩ (Nat.le_trans hF.2 (by decide)) hposI (hG:=fun e=>Gr.of_all (by decide) (HC0.out))).unbase (s':= -15) (g':=True) hb1.out.1 (fun _=>hb1.out.2.1) (fun _ _=>hb1.out.2.2) (by omega)).rt Tryz.results45 1
end Go.Proofs.YtagdihffmjopaaaGreatDoor
namespace Go.Proofs.YtagdihffmjopaaaGreatDoor
set_option linter.all false
open Go.RowKit
set_option maxRecDepth 100000 in
set_option maxHeartbeats 1000000 in
theorem letZ {N:Nat} (hT:∀N,tyQ 1 N) (hX:exZ 86 18 N):exZ 83 7 (N+1):=by
 intro w rb tb cap i t k a h hN
 have hl:=h.l
 have HN:Hid (Bd (N+1) t i k 7):=hN
 clear hN
 have hposI:(0:Int)≤(t.pos i:Int)∧(t.pos i:Int)≤7000:=by have:=h.good.posb i;omega
 go_enter Tryz.func83,Tryz.ntmps83
 have q:=Mz.start (wt:=1) h
 go_wp2_with fail
 refine(q.ne' (sz w) (zeroC)).lf (node20 · 43) ?_
 clear q
 intro w1 q
 have F:=q.f1
 go_wp2_with fail
 refine(q.ne' (sz w1) (nk 43 (t.pos i) nl)).wn (want39 · _) ?_
 clear q F
 intro w2 i2 k2 a2 ok2 q
 have F:=q.f2
 go_wp2_with fail
 refine q.et (eat42 · _) ?_
 clear q F
 intro w3 b3 i3 hE3 q
 have F:=q.f2
 go_upto_if 9 with fail
 go_cut [] (fun wx=>∃(M:Int) (j4:Nat) (k4 a4:Int),Mz 1 w rb tb cap t i k True (-16) wx j4 k4 a4 [(sz w1,nodeC 43 (t.pos i) 0 M ⟨#[]⟩ nl),(sz w,zeroC)] [] nl [])
 case first=>
  go_wp2_with fail
  ·go_wp2_with fail
   go_meet
   exact⟨1,i3,k2,a2,((q.p03 1).less (by omega))⟩
  ·go_wp2_with fail
   go_meet
   exact⟨0,i3,k2,a2,(q.less (by omega))⟩
 case rest=>
  clear F q
  obtain⟨M,j4,k4,a4,q⟩:=hcut
  obtain⟨w5,hw⟩:∃x,x=wc:=⟨_,rfl⟩
  subst hw
  have F:=q.f2
  go_wp2_with fail
  refine q.nm name40 ?_
  clear q F
  intro w6 s6 i6 k6 a6 hs6 ho6 ok6 q
  have F:=q.f2
  go_wp2_with fail
  refine(q.p04 s6).et (eat42 · _) ?_
  clear q F
  intro w7 b7 i7 hE7 q
  have F:=q.f2
  go_upto_if 15 with fail
  go_cut [] (fun wx=>∃(NN:Int) (kv:Value) (vs:List (List Value)) (j8:Nat) (k8 a8:Int),vs.length≤1∧Hid (k8=0→(∀x∈vs.map labOf,noK x)∧(NN=0∧vs.length=0∨NN=1∧vs.length=1))∧Mz 1 w rb tb cap t i k True (-32) wx j8 k8 a8 [(sz w1,nodeC 43 (t.pos i) NN M s6 kv),(sz w,zeroC)] [] kv vs)
  case first=>
   go_wp2_with fail
   ·go_wp2_with fail
    go_region_law (first|(refine q.as (sz w9) (by simp) ?_;clear q F;intro w10 ao10 cp10 q;have F:=q.f2)|(go_simp;refine(q.p02 1).drew.nd (hT _ · (bd_some _ _ _ 3)) ?_;clear q F;intro w9 x9 i9 k9 a9 hc9 ok9 q;have F:=q.f2))
    all_goals
     go_wp2_with fail
     go_meet
     exact⟨1,(.slice ao10 (0+1) cp10),([]++[x9.t]),i9,k9,a9,(by simp),(fun e=>⟨(fun x hx=>(by have h9:x=labOf x9.t:=(by simpa using hx);rw[h9];exact(hc9 e).no)),.inr ⟨rfl,rfl⟩⟩),((q.p05 (.slice ao10 (0+1) cp10)).less (by omega))⟩
   ·go_wp2_with fail
    go_meet
    exact⟨0,nl,[],i7,k6,a6,(by simp),(fun _=>⟨fun x hx=>(by cases hx),.inl ⟨rfl,rfl⟩⟩),(q.less (by omega))⟩
  case rest=>
   clear F q
   obtain⟨NN,kv,vs,j8,k8,a8,hlen,HC,q⟩:=hcut
   obtain⟨w11,hw⟩:∃x,x=wc:=⟨_,rfl⟩
   subst hw
   have F:=q.f2
   obtain⟨ao0,cp0,rfl⟩:=q.shape
   go_wp2_with fail
   refine q.et (eat42 · _) ?_
   clear q F
   intro w12 b12 i12 hE12 q
   have F:=q.f2
   go_wp2_with fail
   ·have HK:Hid (k=0):=q.ok (hE12.yes ‹_›).2
    go_wp2_with fail
    go_region_law (first|(refine q.as (sz w13) (by omega) ?_;clear q F;intro w14 ao14 cp14 q;have F:=q.f2)|(replace q:=(q.p02 (wrap64 (NN+2))).drew;go_simp;refine q.nd (hX · (q.bd (HN.out.any2 HK.out h.lt) (by decide))) ?_;clear q F;intro w13 x13 i13 k13 a13 hc13 ok13 q;have F:=q.f2))
    all_goals
     go_wp2_with fail
     go_light
     exact((q.p05 (.slice ao14 (vs.length+1) cp14)).fo 43 (t.pos i) (wrap64 (NN+2)) M s6 (by first|(simp;omega)|omega) hposI (Nat.le_trans hs6 (by decide)) (hG:=fun e=>by obtain⟨h1,h2⟩:=HC.out (ok13.out e);refine Gr.of_elet ⟨by rw[List.map_append];exact all_snoc h1 (hc13 e),?_⟩;exact h2.elim (fun h=>.inr (.inl ⟨.inr (by rw[h.1];unfold wrap64;decide),by simp[h.2]⟩)) (fun h=>.inr (.inr ⟨by rw[h.1];unfold wrap64;decide,by simp[h.2]⟩)))).rt Tryz.results83 1
   ·go_wp2_with fail
    go_light
    exact(q.fo 43 (t.pos i) NN M s6 (by first|(simp;omega)|omega) hposI (Nat.le_trans hs6 (by decide)) (hG:=fun e=>by obtain⟨h1,h2⟩:=HC.out e;refine Gr.of_elet ⟨h1,?_⟩;exact h2.elim (fun h=>.inl ⟨h.1,by simpa using h.2⟩) (fun h=>.inr (.inl ⟨.inl h.1,by simpa using h.2⟩)))).rt Tryz.results83 1
end Go.Proofs.YtagdihffmjopaaaGreatDoor
namespace Go.Proofs.YtagdihffmjopaaaGreatDoor
set_option linter.all false
open Go.RowKit
set_option maxRecDepth 100000 in
set_option maxHeartbeats 1000000 in
theorem exprsZ {N:Nat} (hX:exZ 86 18 N):exsZ 107 19 (N+1):=by
 intro w rb tb cap i t k a h hN
 have hl:=h.l
 have HN:Hid (Bd (N+1) t i k 19):=hN
 clear hN
 go_enter Tryz.func107,Tryz.ntmps107
 have q:=Mz.start (wt:=1) h
 go_wp2_with fail
 refine q.et (eat42 · _) ?_
 clear q
 intro w1 b1 i1 hE1 q
 go_wp2_with fail
 ·go_wp2_with fail
  go_ret
  exact Mz.post (d:=0) (q.up (g':=True) (fun _ _=>by have:=(hE1.yes ‹_›).1;omega)) (fun _=>trivial) (by simp) (fun _ x hx=>by cases hx) (by omega)
 ·obtain rfl:b1=false:= ‹_›
  go_wp2_with fail
  go_loopg [3] (ml t i1 k) (fun g v wr=>∃(vs:List (List Value)) (j:Nat) (kj aj:Int),g=ml t j kj∧Few 0 vs j kj∧(kj=0→(fun ks=>∀x∈ks,noK x) (vs.map labOf))∧Mz 1 w rb tb cap t i k False (0) wr j kj aj [] [] v vs)
  case atStart=>exact⟨[],i1,k,a,rfl,⟨fun _=>by simp,by simp⟩,(fun e=>(fun x hx=>by cases hx)),(q.up (fun x=>x.elim)).less (by omega)⟩
  case round=>
   clear q
   obtain⟨vs,j,kj,aj,hgk,hF,hC0,q⟩:=hrel
   have HC:Hid (kj=0→(fun ks=>∀x∈ks,noK x) (vs.map labOf)):=hC0
   clear hC0
   have hj:=q.st.rd.lt
   have hposJ:(0:Int)≤(t.pos j:Int)∧(t.pos j:Int)≤7000:=by have:=h.good.posb j;omega
   have HG:Hid (gk=ml t j kj):=hgk
   clear hgk
   obtain⟨ao2,cp2,rfl⟩:=q.shape
   cases hk0:(kj==0)
   ·go_wp2_with fail
    refine q.lf ok21b ?_
    clear q
    intro w3 q
    go_wp2_with fail
    go_ret
    exact Mz.post (d:=0) (q.up (g':=True) (fun _ e=>absurd e (by simpa using hk0))) (fun _=>trivial) hF.2 (fun e=>absurd e (by simpa using hk0)) (by omega)
   ·obtain rfl:kj=0:=by simpa using hk0
    have hb1:Hid (i≤j∧k=0):=⟨q.le,q.ok rfl⟩
    replace HC:Hid ((fun ks=>∀x∈ks,noK x) (vs.map labOf)):=HC.out rfl
    have HJ:Hid (∀i' k',j≤i'→Bd N t i' k' 18):=fun i' k' h1=>HN.out.down (Nat.le_trans q.le h1) (fun _=>q.ok rfl) (by decide)
    have hFl:vs.length≤6001:=by have:=hF.1 rfl;have:=h.good.few;omega
    replace q:Mz 1 w rb tb cap t j 0 False (16*((j:Int) - (i:Int))+(0)) wr j 0 aj [] [] (.slice ao2 vs.length cp2) vs:=q.rebase.less (by omega)
    go_wp2_with fail
    refine q.lf ok21b ?_
    clear q
    intro w4 q
    go_wp2_with fail
    refine q.nd (hX · (HJ.out _ _ q.le)) ?_
    clear q
    intro w5 x5 i5 k5 a5 hc5 ok5 q
    go_wp2_with (at_builtin;refine q.ap (sz w5) (Nat.le_trans hFl (by decide)) ?_;clear q;intro w6 ao6 cp6 q)
    go_wp2_with fail
    refine q.et (eat42 · _) ?_
    clear q
    intro w7 b7 i7 hE7 q
    go_wp2_with fail
    ·go_wp2_with fail
     go_ret
     exact Mz.post (d:=0) ((q.unbase (i':=i) (k':=k) (g':=False) (s':= -8) hb1.out.1 (fun _=>hb1.out.2) (fun x=>x.elim) (by omega)).up (g':=True) (fun _ e=>Nat.lt_of_le_of_lt hb1.out.1 (q.go trivial e))) (fun _=>trivial) (by have h1:=hF.1 rfl;have h2:=h.good.few;simp only[List.length_append,List.length_cons,List.length_nil];omega) (fun e=>by rw[List.map_append];exact all_snoc HC.out (hc5 e)) (by omega)
    ·go_wp2_with fail
     refine q.wn (want39 · _) ?_
     clear q
     intro w8 i8 k8 a8 ok8 q
     go_wp2_with fail
     go_roundg (ml t i8 k8)
     case measure=>rw[HG.out];exact ml_lt hj q.le (q.go trivial)
     case rel=>exact⟨(vs++[x5.t]),i8,k8,a8,rfl,Few.snoc (t:=t) hF rfl hj h.good (q.go trivial),(fun e=>by rw[List.map_append];exact all_snoc HC.out (hc5 (ok8.out e))),q.unbase (s':=0) hb1.out.1 (fun _=>hb1.out.2) (fun x=>x.elim) (by omega)⟩
end Go.Proofs.YtagdihffmjopaaaGreatDoor
namespace Go.Proofs.YtagdihffmjopaaaGreatDoor
set_option linter.all false
open Go.RowKit
set_option maxRecDepth 100000 in
set_option maxHeartbeats 1000000 in
theorem patsZ {N:Nat} (hX:exZ 134 3 N):exsZ 145 4 (N+1):=by
 intro w rb tb cap i t k a h hN
 have hl:=h.l
 have HN:Hid (Bd (N+1) t i k 4):=hN
 clear hN
 go_enter Tryz.func145,Tryz.ntmps145
 have q:=Mz.start (wt:=1) h
 go_wp2_with fail
 refine q.et (eat42 · _) ?_
 clear q
 intro w1 b1 i1 hE1 q
 go_wp2_with fail
 ·go_wp2_with fail
  go_ret
  exact Mz.post (d:=0) (q.up (g':=True) (fun _ _=>by have:=(hE1.yes ‹_›).1;omega)) (fun _=>trivial) (by simp) (fun _ x hx=>by cases hx) (by omega)
 ·obtain rfl:b1=false:= ‹_›
  go_wp2_with fail
  go_loopg [3] (ml t i1 k) (fun g v wr=>∃(vs:List (List Value)) (j:Nat) (kj aj:Int),g=ml t j kj∧Few 0 vs j kj∧(kj=0→(fun ks=>∀x∈ks,noK x) (vs.map labOf))∧Mz 1 w rb tb cap t i k False (0) wr j kj aj [] [] v vs)
  case atStart=>exact⟨[],i1,k,a,rfl,⟨fun _=>by simp,by simp⟩,(fun e=>(fun x hx=>by cases hx)),(q.up (fun x=>x.elim)).less (by omega)⟩
  case round=>
   clear q
   obtain⟨vs,j,kj,aj,hgk,hF,hC0,q⟩:=hrel
   have HC:Hid (kj=0→(fun ks=>∀x∈ks,noK x) (vs.map labOf)):=hC0
   clear hC0
   have hj:=q.st.rd.lt
   have hposJ:(0:Int)≤(t.pos j:Int)∧(t.pos j:Int)≤7000:=by have:=h.good.posb j;omega
   have HG:Hid (gk=ml t j kj):=hgk
   clear hgk
   obtain⟨ao2,cp2,rfl⟩:=q.shape
   cases hk0:(kj==0)
   ·go_wp2_with fail
    refine q.lf ok21b ?_
    clear q
    intro w3 q
    go_wp2_with fail
    go_ret
    exact Mz.post (d:=0) (q.up (g':=True) (fun _ e=>absurd e (by simpa using hk0))) (fun _=>trivial) hF.2 (fun e=>absurd e (by simpa using hk0)) (by omega)
   ·obtain rfl:kj=0:=by simpa using hk0
    have hb1:Hid (i≤j∧k=0):=⟨q.le,q.ok rfl⟩
    replace HC:Hid ((fun ks=>∀x∈ks,noK x) (vs.map labOf)):=HC.out rfl
    have HJ:Hid (∀i' k',j≤i'→Bd N t i' k' 3):=fun i' k' h1=>HN.out.down (Nat.le_trans q.le h1) (fun _=>q.ok rfl) (by decide)
    have hFl:vs.length≤6001:=by have:=hF.1 rfl;have:=h.good.few;omega
    replace q:Mz 1 w rb tb cap t j 0 False (16*((j:Int) - (i:Int))+(0)) wr j 0 aj [] [] (.slice ao2 vs.length cp2) vs:=q.rebase.less (by omega)
    go_wp2_with fail
    refine q.lf ok21b ?_
    clear q
    intro w4 q
    go_wp2_with fail
    refine q.nd (hX · (HJ.out _ _ q.le)) ?_
    clear q
    intro w5 x5 i5 k5 a5 hc5 ok5 q
    go_wp2_with (at_builtin;refine q.ap (sz w5) (Nat.le_trans hFl (by decide)) ?_;clear q;intro w6 ao6 cp6 q)
    go_wp2_with fail
    refine q.et (eat42 · _) ?_
    clear q
    intro w7 b7 i7 hE7 q
    go_wp2_with fail
    ·go_wp2_with fail
     go_ret
     exact Mz.post (d:=0) ((q.unbase (i':=i) (k':=k) (g':=False) (s':= -8) hb1.out.1 (fun _=>hb1.out.2) (fun x=>x.elim) (by omega)).up (g':=True) (fun _ e=>Nat.lt_of_le_of_lt hb1.out.1 (q.go trivial e))) (fun _=>trivial) (by have h1:=hF.1 rfl;have h2:=h.good.few;simp only[List.length_append,List.length_cons,List.length_nil];omega) (fun e=>by rw[List.map_append];exact all_snoc HC.out (hc5 e)) (by omega)
    ·go_wp2_with fail
     refine q.wn (want39 · _) ?_
     clear q
     intro w8 i8 k8 a8 ok8 q
     go_wp2_with fail
     go_roundg (ml t i8 k8)
     case measure=>rw[HG.out];exact ml_lt hj q.le (q.go trivial)
     case rel=>exact⟨(vs++[x5.t]),i8,k8,a8,rfl,Few.snoc (t:=t) hF rfl hj h.good (q.go trivial),(fun e=>by rw[List.map_append];exact all_snoc HC.out (hc5 (ok8.out e))),q.unbase (s':=0) hb1.out.1 (fun _=>hb1.out.2) (fun x=>x.elim) (by omega)⟩
end Go.Proofs.YtagdihffmjopaaaGreatDoor
namespace Go.Proofs.YtagdihffmjopaaaGreatDoor
set_option linter.all false
open Go.RowKit
set_option maxRecDepth 100000 in
set_option maxHeartbeats 1000000 in
theorem patternZ_0 {N:Nat} (hPs:exsZ 145 4 N) {w:World} {rb tb cap i:Nat} {t:Tk} {k a:Int} (h:Rd w rb tb cap t i k a) (hN:Bd (N+1) t i k 3) (h0:isB t i k 0 ⟨#[95]⟩=true):Calls Tryz.prog 134 #[.pointer (some ⟨rb,0,none⟩)] w (NodeZ 1 w rb tb cap t i k True 8 noK):=by
 have hl:=h.l
 have HN:Hid (Bd (N+1) t i k 3):=hN
 clear hN
 have hposI:(0:Int)≤(t.pos i:Int)∧(t.pos i:Int)≤7000:=by have:=h.good.posb i;omega
 go_enter Tryz.func134,Tryz.ntmps134
 have hi:(i:Int)<(t.len:Int):=by have:=h.lt;omega
 have hfew:(t.len:Int)≤6001:=by have:=h.good.few;omega
 have hfd:=fld103_3
 have q:=Mz.start (wt:=1) h
 go_wp2_with fail
 refine(q.ne' (sz w) (zeroC)).lf (node20 · 0) ?_
 clear q
 intro w1 q
 have F:=q.f1
 go_wp2_with fail
 refine(q.ne' (sz w1) (nk 0 (t.pos i) nl)).ey (eat_yes · _ h0) ?_
 clear q F
 intro w2 q
 have F:=q.f2
 go_wp2_with fail
 go_light
 exact((q.p00 49).lk 49 (t.pos i) 0 0 ⟨#[]⟩ hposI).rt Tryz.results134 1
set_option maxRecDepth 100000 in
set_option maxHeartbeats 1000000 in
theorem patternZ_1 {N:Nat} (hPs:exsZ 145 4 N) {w:World} {rb tb cap i:Nat} {t:Tk} {k a:Int} (h:Rd w rb tb cap t i k a) (hN:Bd (N+1) t i k 3) (h0:isB t i k 0 ⟨#[95]⟩=false) (h1:isB t i k 0 ⟨#[45]⟩=true):Calls Tryz.prog 134 #[.pointer (some ⟨rb,0,none⟩)] w (NodeZ 1 w rb tb cap t i k True 8 noK):=by
 have hl:=h.l
 have HN:Hid (Bd (N+1) t i k 3):=hN
 clear hN
 have hposI:(0:Int)≤(t.pos i:Int)∧(t.pos i:Int)≤7000:=by have:=h.good.posb i;omega
 go_enter Tryz.func134,Tryz.ntmps134
 have hi:(i:Int)<(t.len:Int):=by have:=h.lt;omega
 have hfew:(t.len:Int)≤6001:=by have:=h.good.few;omega
 have hfd:=fld103_3
 have q:=Mz.start (wt:=1) h
 go_wp2_with fail
 refine(q.ne' (sz w) (zeroC)).lf (node20 · 0) ?_
 clear q
 intro w1 q
 have F:=q.f1
 go_wp2_with fail
 refine(q.ne' (sz w1) (nk 0 (t.pos i) nl)).lf (eat_no · _ h0) ?_
 clear q F
 intro w2 q
 have F:=q.f2
 go_wp2_with fail
 refine q.ey (eat_yes · _ h1) ?_
 clear q F
 intro w3 q
 have F:=q.f2
 cases hq:kindB t (i+1) k 0 1
 ·go_wp2_with fail
  refine(q.p00 51).lf (kind22 · 0 (by decide) 1) ?_
  clear q F
  intro w4 q
  have F:=q.f2
  go_wp2_with fail
  refine(bad64 q.st.rd).mono ?_
  rintro e w5 ⟨rfl,⟨k5,a5,hk5,h5⟩,hk5'⟩
  replace q:=((q.rk h5 hk5' (Nat.le_refl _) (fun e=>absurd e hk5)).up (g':=True) (fun _ e=>absurd e hk5)).dead (s':=(-100)) hk5
  clear h5 hk5'
  replace F:=q.f2
  go_wp2_with fail
  go_light
  exact(q.lk 51 (t.pos i) 0 0 ⟨#[]⟩ hposI (by decide) (fun e=>absurd e hk5)).rt Tryz.results134 1
 ·have hlt:i+1+1<t.len:=(kindB_lt h.good q.st.rd.lt (by decide) hq).2.1
  have hi1:(i:Int)+1<(t.len:Int):=by have:=q.st.rd.lt;omega
  go_wp2_with fail
  refine(q.p00 51).lf (kind22 · 0 (by decide) 1) ?_
  clear q F
  intro w6 q
  have F:=q.f2
  go_wp2_with fail
  refine q.lf tok38 ?_
  clear q F
  intro w7 q
  have F:=q.f2
  have r1:=q.st.rd.r1
  have fr1:=q.st.rd.fz 1
  have lr:=q.st.rd.l
  go_wp2_with fail
  go_light
  exact(((q.p02 (wrap64 (-(t.num (i+1):Int)))).goI (j':=(i+1)+1) hlt (Nat.lt_succ_self _)).lk 51 (t.pos i) (wrap64 (-(t.num (i+1):Int))) 0 ⟨#[]⟩ hposI (hG:=fun _=>Gr.of_pint (by unfold wrap64;omega))).rt Tryz.results134 1
set_option maxRecDepth 100000 in
set_option maxHeartbeats 1000000 in
theorem patternZ_2 {N:Nat} (hPs:exsZ 145 4 N) {w:World} {rb tb cap i:Nat} {t:Tk} {k a:Int} (h:Rd w rb tb cap t i k a) (hN:Bd (N+1) t i k 3) (h0:isB t i k 0 ⟨#[95]⟩=false) (h1:isB t i k 0 ⟨#[45]⟩=false) (h2:kindB t i k 0 1=true):Calls Tryz.prog 134 #[.pointer (some ⟨rb,0,none⟩)] w (NodeZ 1 w rb tb cap t i k True 8 noK):=by
 have hl:=h.l
 have HN:Hid (Bd (N+1) t i k 3):=hN
 clear hN
 have hposI:(0:Int)≤(t.pos i:Int)∧(t.pos i:Int)≤7000:=by have:=h.good.posb i;omega
 go_enter Tryz.func134,Tryz.ntmps134
 have hi:(i:Int)<(t.len:Int):=by have:=h.lt;omega
 have hfew:(t.len:Int)≤6001:=by have:=h.good.few;omega
 have hfd:=fld103_3
 have q:=Mz.start (wt:=1) h
 go_wp2_with fail
 refine(q.ne' (sz w) (zeroC)).lf (node20 · 0) ?_
 clear q
 intro w1 q
 have F:=q.f1
 go_wp2_with fail
 refine(q.ne' (sz w1) (nk 0 (t.pos i) nl)).lf (eat_no · _ h0) ?_
 clear q F
 intro w2 q
 have F:=q.f2
 go_wp2_with fail
 refine q.lf (eat_no · _ h1) ?_
 clear q F
 intro w3 q
 have F:=q.f2
 have hlt:i+1<t.len:=(kindB_lt h.good h.lt (by decide) h2).2.1
 go_wp2_with fail
 refine q.lf (kind22 · 0 (by decide) 1) ?_
 clear q F
 intro w4 q
 have F:=q.f2
 go_wp2_with fail
 refine(q.p00 51).lf tok38 ?_
 clear q F
 intro w5 q
 have F:=q.f2
 have r1:=q.st.rd.r1
 have fr1:=q.st.rd.fz 1
 have lr:=q.st.rd.l
 go_wp2_with fail
 go_light
 exact(((q.p02 (t.num i:Int)).goI (j':=i+1) hlt (Nat.lt_succ_self _)).lk 51 (t.pos i) (t.num i:Int) 0 ⟨#[]⟩ hposI (hG:=fun _=>Gr.of_pint (by have:=h.good.numb i;omega))).rt Tryz.results134 1
end Go.Proofs.YtagdihffmjopaaaGreatDoor
