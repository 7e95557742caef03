/- make. -/
import Derived.Test.YtdplogkmkgekdaaGreatDoorFRefdn
import Derived.Test.YtdplogkmkgekdaaGreatDoorFWordC
set_option linter.all false
set_option maxRecDepth 100000
set_option maxHeartbeats 4000000
namespace Go.Proofs.YtdplogkmkgekdaaGreatDoor
open Go.RowKit
theorem wordedF_8 {N:Nat} (hX:exF 176 18 N (fun t n=>gG t n 1)) (hB:exF 104 7 N (fun t n=>gG t n 3)) {w:World} {rb tb cap i:Nat} {t:Tk} {k a:Int} (hkw:t.kind i=3) (h:Rd w rb tb cap t i k a) (hk:k=0) (hN:Bd (N+1) t i k 9) (t0:((t.text i).toList==[116,114,117,101])=false) (t1:((t.text i).toList==[102,97,108,115,101])=false) (t2:((t.text i).toList==[98,114,101,97,107])=false) (t3:((t.text i).toList==[110,101,120,116])=false) (t4:((t.text i).toList==[112,97,110,105,99])=false) (t5:((t.text i).toList==[114,101,116,117,114,110])=false) (t6:((t.text i).toList==[105,102])=false) (t7:((t.text i).toList==[109,97,116,99,104])=false) (t8:((t.text i).toList==[119,104,105,108,101])=true):Calls Tryz.prog 210 #[.pointer (some ⟨rb,0,none⟩)] w (NodeF 1 w rb tb cap t i k a True 8 noK (fun n=>gWorded t (gG t n 0) (gG t n 1) (gG t n 3) (gG t n 5) (gG t n 4) n)):=by
 have HK:Hid (k=0):=hk
 clear hk
 have hl:=h.l
 have HN:Hid (Bd (N+1) t i k 9):=hN
 clear hN
 have HB:Hid (∀i' k' r',(k'=0→i<i')→r'<64→Bd N t i' k' r'):=HN.out.any2 HK.out h.lt
 have hposI:(0:Int)≤(t.pos i:Int)∧(t.pos i:Int)≤7000:=by have:=h.good.posb i;omega
 go_enter Tryz.func210,Tryz.ntmps210
 have hi:(i:Int)<(t.len:Int):=by have:=h.lt;omega
 have hfew:(t.len:Int)≤6001:=by have:=h.good.few;omega
 have hlt:i+1<t.len:=kind_lt h.good h.lt (by omega)
 have hfd:=fld103_2
 have q:=Mf.start (wt:=1) h
 go_wp2_with fail
 refine(q.ne' (sz w) (zeroC)).lf (node20 · 0) ?_
 clear q
 intro w1 q
 have F:=q.f1
 go_wp2_with fail
 refine(q.ne' (sz w1) (nk 0 (t.pos i) nl)).lf tok38 ?_
 clear q F
 intro w2 q
 have F:=q.f2
 have r1:=q.st.rd.r1
 have fr1:=q.st.rd.fz 1
 have lr:=q.st.rd.l
 go_wp2_with fail
 replace q:=(q.p00 36).goI (j':=i+1) hlt (Nat.lt_succ_self _)
 refine q.nd (hX · (q.bd HB.out (by decide))) ?_
 clear q F r1 fr1 lr
 intro w3 x3 i3 k3 a3 y3 hc3 ok3 m3 q
 have F:=q.f2
 go_wp2_with fail
 go_region_law (replace q:=(q.ne' (sz w3) x3.a).drew;go_simp;refine q.nd (hB · (q.bd HB.out (by decide))) ?_;clear q F;intro w4 x4 i4 k4 a4 y4 hc4 ok4 m4 q;have F:=q.f3)
 all_goals
  go_wp2_with fail
  go_light
  refine(((q.swap).p15 (sl (sz w4) 2)).l2 (sz w4) 36 (t.pos i) 0 0 ⟨#[]⟩ hposI (hG:=fun e=>Gr.of_two (by decide) ⟨_,_,rfl,hc3 (ok4.out e),hc4 e⟩)).rt Tryz.results210 2 (by unfold gWorded;exact evt) ?_
  simp[set11,World.setCell_alloc_past,F,Nat.lt_succ_of_lt]
theorem wordedF_9 {N:Nat} (hB:exF 104 7 N (fun t n=>gG t n 3)) {w:World} {rb tb cap i:Nat} {t:Tk} {k a:Int} (hkw:t.kind i=3) (h:Rd w rb tb cap t i k a) (hk:k=0) (hN:Bd (N+1) t i k 9) (t0:((t.text i).toList==[116,114,117,101])=false) (t1:((t.text i).toList==[102,97,108,115,101])=false) (t2:((t.text i).toList==[98,114,101,97,107])=false) (t3:((t.text i).toList==[110,101,120,116])=false) (t4:((t.text i).toList==[112,97,110,105,99])=false) (t5:((t.text i).toList==[114,101,116,117,114,110])=false) (t6:((t.text i).toList==[105,102])=false) (t7:((t.text i).toList==[109,97,116,99,104])=false) (t8:((t.text i).toList==[119,104,105,108,101])=false) (t9:((t.text i).toList==[108,111,111,112])=true):Calls Tryz.prog 210 #[.pointer (some ⟨rb,0,none⟩)] w (NodeF 1 w rb tb cap t i k a True 8 noK (fun n=>gWorded t (gG t n 0) (gG t n 1) (gG t n 3) (gG t n 5) (gG t n 4) n)):=by
 have HK:Hid (k=0):=hk
 clear hk
 have hl:=h.l
 have HN:Hid (Bd (N+1) t i k 9):=hN
 clear hN
 have HB:Hid (∀i' k' r',(k'=0→i<i')→r'<64→Bd N t i' k' r'):=HN.out.any2 HK.out h.lt
 have hposI:(0:Int)≤(t.pos i:Int)∧(t.pos i:Int)≤7000:=by have:=h.good.posb i;omega
 go_enter Tryz.func210,Tryz.ntmps210
 have hi:(i:Int)<(t.len:Int):=by have:=h.lt;omega
 have hfew:(t.len:Int)≤6001:=by have:=h.good.few;omega
 have hlt:i+1<t.len:=kind_lt h.good h.lt (by omega)
 have hfd:=fld103_2
 have q:=Mf.start (wt:=1) h
 go_wp2_with fail
 refine(q.ne' (sz w) (zeroC)).lf (node20 · 0) ?_
 clear q
 intro w1 q
 have F:=q.f1
 go_wp2_with fail
 refine(q.ne' (sz w1) (nk 0 (t.pos i) nl)).lf tok38 ?_
 clear q F
 intro w2 q
 have F:=q.f2
 have r1:=q.st.rd.r1
 have fr1:=q.st.rd.fz 1
 have lr:=q.st.rd.l
 go_wp2_with fail
 replace q:=(q.p00 37).goI (j':=i+1) hlt (Nat.lt_succ_self _)
 refine q.nd (hB · (q.bd HB.out (by decide))) ?_
 clear q F r1 fr1 lr
 intro w3 x3 i3 k3 a3 y3 hc3 ok3 m3 q
 have F:=q.f2
 go_wp2_with fail
 go_light
 refine((q.p05 (sl (sz w3) 1)).l1 (sz w3) 37 (t.pos i) 0 0 ⟨#[]⟩ hposI (hG:=fun e=>Gr.of_one (by decide) ⟨_,rfl,hc3 e⟩)).rt Tryz.results210 1 (by unfold gWorded;exact evt) ?_
 simp[set11,World.setCell_alloc_past,F,Nat.lt_succ_of_lt]
theorem wordedF_12 {N:Nat} (hB:exF 104 7 N (fun t n=>gG t n 3)) (hCa:liF 228 True (fun ks=>∀x∈ks,x=47) (fun t n=>gCaps t n)) (hRe:noF 1 172 False (-1) tyK (fun t n=>gResult t (gG t n 0))) {w:World} {rb tb cap i:Nat} {t:Tk} {k a:Int} (hkw:t.kind i=3) (h:Rd w rb tb cap t i k a) (hk:k=0) (hN:Bd (N+1) t i k 9) (t0:((t.text i).toList==[116,114,117,101])=false) (t1:((t.text i).toList==[102,97,108,115,101])=false) (t2:((t.text i).toList==[98,114,101,97,107])=false) (t3:((t.text i).toList==[110,101,120,116])=false) (t4:((t.text i).toList==[112,97,110,105,99])=false) (t5:((t.text i).toList==[114,101,116,117,114,110])=false) (t6:((t.text i).toList==[105,102])=false) (t7:((t.text i).toList==[109,97,116,99,104])=false) (t8:((t.text i).toList==[119,104,105,108,101])=false) (t9:((t.text i).toList==[108,111,111,112])=false) (t10:((t.text i).toList==[109,97,107,101])=false) (t11:((t.text i).toList==[102,110])=false) (t12:((t.text i).toList==[115,112,97,119,110])=true):Calls Tryz.prog 210 #[.pointer (some ⟨rb,0,none⟩)] w (NodeF 1 w rb tb cap t i k a True 8 noK (fun n=>gWorded t (gG t n 0) (gG t n 1) (gG t n 3) (gG t n 5) (gG t n 4) n)):=by
 have HK:Hid (k=0):=hk
 clear hk
 have hl:=h.l
 have HN:Hid (Bd (N+1) t i k 9):=hN
 clear hN
 have HB:Hid (∀i' k' r',(k'=0→i<i')→r'<64→Bd N t i' k' r'):=HN.out.any2 HK.out h.lt
 have hposI:(0:Int)≤(t.pos i:Int)∧(t.pos i:Int)≤7000:=by have:=h.good.posb i;omega
 go_enter Tryz.func210,Tryz.ntmps210
 have hi:(i:Int)<(t.len:Int):=by have:=h.lt;omega
 have hfew:(t.len:Int)≤6001:=by have:=h.good.few;omega
 have hlt:i+1<t.len:=kind_lt h.good h.lt (by omega)
 have hfd:=fld103_2
 have q:=Mf.start (wt:=1) h
 go_wp2_with fail
 refine(q.ne' (sz w) (zeroC)).lf (node20 · 0) ?_
 clear q
 intro w1 q
 have F:=q.f1
 go_wp2_with fail
 refine(q.ne' (sz w1) (nk 0 (t.pos i) nl)).lf tok38 ?_
 clear q F
 intro w2 q
 have F:=q.f2
 have r1:=q.st.rd.r1
 have fr1:=q.st.rd.fz 1
 have lr:=q.st.rd.l
 go_wp2_with fail
 refine((q.p00 48).goI (j':=i+1) hlt (Nat.lt_succ_self _)).li hCa ?_
 clear q F r1 fr1 lr
 intro w3 ao3 cp3 vs3 i3 k3 a3 V3 hl3 hP3 ok3 m3 q
 have hV3:Hid (V3.length=vs3.length):=q.fv.len
 have F:=q.f2
 go_upto_region 52 with fail
 go_cut [] (fun wx=>∃(kv4:Value) (vs4:List (List Value)) (j5:Nat) (k5 a5:Int),vs4.length≤6003∧Hid (k5=0→∃cs x,vs4.map labOf=cs++[x]∧cs.length=vs3.length∧(∀c∈cs,c=47)∧noK x)∧(∃(yr:List Nr),Ev (fun n=>gResult t (gG t n 0)) ⟨i3,k3,a3⟩ (yr,⟨j5,k5,a5⟩)∧Mf 1 w rb tb cap t i k True (-15) wx j5 k5 a5 [(sz w1,nodeC 48 (t.pos i) 0 (vs3.length:Int) ⟨#[]⟩ kv4),(sz w,zeroC)] [] kv4 vs4 [] (V3++[yr])))
 case first=>
  go_wp2_with fail
  go_region_law (first|(refine q.as (sz w6) (Nat.le_trans hl3 (by decide)) ?_;clear q F;intro w7 ao7 cp7 q;have F:=q.f2)|(go_simp;refine((q.p05 (.slice ao3 vs3.length cp3)).p03 (vs3.length:Int)).drew.nn hRe ?_;clear q F;intro w6 x6 i6 k6 a6 y6 hc6 ok6 m6 q;have F:=q.f2))
  all_goals
   go_wp2_with fail
   go_meet
   exact⟨(.slice ao7 (vs3.length+1) cp7),(vs3++[x6.t]),i6,k6,a6,(by have:=hl3;simp;omega),(fun e=>⟨vs3.map labOf,_,List.map_append,by simp,hP3 (ok6.out e),(hc6 e).no⟩),y6,m6,((q.p05 (.slice ao7 (vs3.length+1) cp7)).less (by omega))⟩
 case rest=>
  clear F q
  obtain⟨kv4,vs4,j5,k5,a5,hlen4,HC,yr,mr,q⟩:=hcut
  obtain⟨w8,hw⟩:∃x,x=wc:=⟨_,rfl⟩
  subst hw
  have F:=q.f2
  obtain⟨ao9,cp9,rfl⟩:=q.shape
  replace F:=q.f2
  go_wp2_with fail
  go_region_law (first|(refine q.as (sz w10) (Nat.le_trans hlen4 (by decide)) ?_;clear q F;intro w11 ao11 cp11 q;have F:=q.f2)|(replace q:=q.drew;go_simp;refine q.nd (hB · (q.bd HB.out (by decide))) ?_;clear q F;intro w10 x10 i10 k10 a10 y10 hc10 ok10 m10 q;have F:=q.f2))
  all_goals
   go_wp2_with fail
   go_light
   exact((q.p05 (.slice ao11 (vs4.length+1) cp11)).fo 48 (t.pos i) 0 (vs3.length:Int) ⟨#[]⟩ (by have:=hlen4;simp;omega) hposI (hG:=fun e=>by obtain⟨cs,x,h1,h2,h3,h4⟩:=HC.out (ok10.out e);exact Gr.of_spawn ⟨cs,x,_,by rw[List.map_append,h1,List.append_assoc];rfl,by rw[h2],h3,h4,hc10 e⟩)).rt Tryz.results210 1 (by have hfin:nd 48 (t.pos i:Int) 0 (V3.length:Int) E0 (V3++[yr,y10])=nd 48 (t.pos i:Int) 0 (vs3.length:Int) E0 (V3++[yr]++[y10]):=(by rw[hV3.out];simp);unfold gWorded;exact evt)
theorem wordedF_13 {N:Nat} {w:World} {rb tb cap i:Nat} {t:Tk} {k a:Int} (hkw:t.kind i=3) (h:Rd w rb tb cap t i k a) (hk:k=0) (hN:Bd (N+1) t i k 9) (t0:((t.text i).toList==[116,114,117,101])=false) (t1:((t.text i).toList==[102,97,108,115,101])=false) (t2:((t.text i).toList==[98,114,101,97,107])=false) (t3:((t.text i).toList==[110,101,120,116])=false) (t4:((t.text i).toList==[112,97,110,105,99])=false) (t5:((t.text i).toList==[114,101,116,117,114,110])=false) (t6:((t.text i).toList==[105,102])=false) (t7:((t.text i).toList==[109,97,116,99,104])=false) (t8:((t.text i).toList==[119,104,105,108,101])=false) (t9:((t.text i).toList==[108,111,111,112])=false) (t10:((t.text i).toList==[109,97,107,101])=false) (t11:((t.text i).toList==[102,110])=false) (t12:((t.text i).toList==[115,112,97,119,110])=false):Calls Tryz.prog 210 #[.pointer (some ⟨rb,0,none⟩)] w (NodeF 1 w rb tb cap t i k a True 8 noK (fun n=>gWorded t (gG t n 0) (gG t n 1) (gG t n 3) (gG t n 5) (gG t n 4) n)):=by
 have HK:Hid (k=0):=hk
 clear hk
 have hl:=h.l
 have HN:Hid (Bd (N+1) t i k 9):=hN
 clear hN
 have HB:Hid (∀i' k' r',(k'=0→i<i')→r'<64→Bd N t i' k' r'):=HN.out.any2 HK.out h.lt
 have hposI:(0:Int)≤(t.pos i:Int)∧(t.pos i:Int)≤7000:=by have:=h.good.posb i;omega
 go_enter Tryz.func210,Tryz.ntmps210
 have hi:(i:Int)<(t.len:Int):=by have:=h.lt;omega
 have hfew:(t.len:Int)≤6001:=by have:=h.good.few;omega
 have hlt:i+1<t.len:=kind_lt h.good h.lt (by omega)
 have hfd:=fld103_2
 have q:=Mf.start (wt:=1) h
 go_wp2_with fail
 refine(q.ne' (sz w) (zeroC)).lf (node20 · 0) ?_
 clear q
 intro w1 q
 have F:=q.f1
 go_wp2_with fail
 refine(q.ne' (sz w1) (nk 0 (t.pos i) nl)).lf tok38 ?_
 clear q F
 intro w2 q
 have F:=q.f2
 go_wp2_with fail
 refine(bad64F q.st.rd).mono ?_
 rintro e w3 ⟨rfl,⟨k3,a3,hk3,h3,m3⟩,hk3'⟩
 replace q:=((q.rk h3 hk3' (Nat.le_refl _) (fun e=>absurd e hk3)).up (g':=True) (fun _ e=>absurd e hk3)).dead (s':=(-100)) hk3
 clear h3 hk3'
 replace F:=q.f2
 go_wp2_with fail
 go_light
 exact(q.lk 0 (t.pos i) 0 0 ⟨#[]⟩ hposI (by decide) (fun e=>absurd e hk3)).rt Tryz.results210 1 (by unfold gWorded;exact evt) (hC:=fun e=>absurd e hk3)
end Go.Proofs.YtdplogkmkgekdaaGreatDoor
namespace Go.Proofs.YtdplogkmkgekdaaGreatDoor
open Go.RowKit
theorem wordedF {N:Nat} (hX:exF 176 18 N (fun t n=>gG t n 1)) (hB:exF 104 7 N (fun t n=>gG t n 3)) (hI:exKF 224 8 N (fun t n=>gG t n 4)) (hM:exKF 225 8 N (fun t n=>gMatch t (gG t n 1) (gG t n 5) n)) (hMk:exKF 226 8 N (fun t n=>gMake t (gG t n 0) (gG t n 1) n)) (hC:exKF 227 8 N (fun t n=>gClosure t (gG t n 0) (gG t n 3) n)) (hCa:liF 228 True (fun ks=>∀x∈ks,x=47) (fun t n=>gCaps t n)) (hRe:noF 1 172 False (-1) tyK (fun t n=>gResult t (gG t n 0))):∀{w:World} {rb tb cap i:Nat} {t:Tk} {a:Int},t.kind i=3→Rd w rb tb cap t i 0 a→Bd (N+1) t i 0 9→Calls Tryz.prog 210 #[.pointer (some ⟨rb,0,none⟩)] w (NodeF 1 w rb tb cap t i 0 a True 8 noK (fun n=>gWorded t (gG t n 0) (gG t n 1) (gG t n 3) (gG t n 5) (gG t n 4) n)):=by
 intro w rb tb cap i t a hkw h hN
 cases t0:((t.text i).toList==[116,114,117,101])
 ·cases t1:((t.text i).toList==[102,97,108,115,101])
  ·cases t2:((t.text i).toList==[98,114,101,97,107])
   ·cases t3:((t.text i).toList==[110,101,120,116])
    ·cases t4:((t.text i).toList==[112,97,110,105,99])
     ·cases t5:((t.text i).toList==[114,101,116,117,114,110])
      ·cases t6:((t.text i).toList==[105,102])
       ·cases t7:((t.text i).toList==[109,97,116,99,104])
        ·cases t8:((t.text i).toList==[119,104,105,108,101])
         ·cases t9:((t.text i).toList==[108,111,111,112])
          ·cases t10:((t.text i).toList==[109,97,107,101])
           ·cases t11:((t.text i).toList==[102,110])
            ·cases t12:((t.text i).toList==[115,112,97,119,110])
             ·exact wordedF_13 hkw h rfl hN t0 t1 t2 t3 t4 t5 t6 t7 t8 t9 t10 t11 t12
             ·exact wordedF_12 hB hCa hRe hkw h rfl hN t0 t1 t2 t3 t4 t5 t6 t7 t8 t9 t10 t11 t12
            ·exact wordedF_11 hC hkw h rfl hN t0 t1 t2 t3 t4 t5 t6 t7 t8 t9 t10 t11
           ·exact wordedF_10 hMk hkw h rfl hN t0 t1 t2 t3 t4 t5 t6 t7 t8 t9 t10
          ·exact wordedF_9 hB hkw h rfl hN t0 t1 t2 t3 t4 t5 t6 t7 t8 t9
         ·exact wordedF_8 hX hB hkw h rfl hN t0 t1 t2 t3 t4 t5 t6 t7 t8
        ·exact wordedF_7 hM hkw h rfl hN t0 t1 t2 t3 t4 t5 t6 t7
       ·exact wordedF_6 hI hkw h rfl hN t0 t1 t2 t3 t4 t5 t6
      ·exact wordedF_5 hX hkw h rfl hN t0 t1 t2 t3 t4 t5
     ·exact wordedF_4 hkw h rfl hN t0 t1 t2 t3 t4
    ·exact wordedF_3 hkw h rfl hN t0 t1 t2 t3
   ·exact wordedF_2 hkw h rfl hN t0 t1 t2
  ·exact wordedF_1 hkw h rfl hN t0 t1
 ·exact wordedF_0 hkw h rfl hN t0
end Go.Proofs.YtdplogkmkgekdaaGreatDoor
namespace Go.Proofs.YtdplogkmkgekdaaGreatDoor
open Go.RowKit
theorem ifsF {N:Nat} (hX:exF 176 18 N (fun t n=>gG t n 1)) (hB:exF 104 7 N (fun t n=>gG t n 3)) (hI:exKF 224 8 N (fun t n=>gG t n 4)):exKF 224 8 (N+1) (fun t n=>gIf t (gG t n 1) (gG t n 3) (gG t n 4)):=by
 intro w rb tb cap i t a h hN
 obtain⟨k,hk⟩:∃k:Int,k=0:=⟨_,rfl⟩
 rw[←hk] at h hN⊢
 have HK:Hid (k=0):=hk
 clear hk
 have hl:=h.l
 have HN:Hid (Bd (N+1) t i k 8):=hN
 clear hN
 have HB:Hid (∀i' k' r',(k'=0→i<i')→r'<64→Bd N t i' k' r'):=HN.out.any2 HK.out h.lt
 have hposI:(0:Int)≤(t.pos i:Int)∧(t.pos i:Int)≤7000:=by have:=h.good.posb i;omega
 go_enter Tryz.func224,Tryz.ntmps224
 have q:=Mf.start (wt:=1) h
 go_wp2_with fail
 refine(q.ne' (sz w) (zeroC)).lf (node20 · 33) ?_
 clear q
 intro w1 q
 have F:=q.f1
 go_wp2_with fail
 refine(q.ne' (sz w1) (nk 33 (t.pos i) nl)).wn (want39F · _) ?_
 clear q F
 intro w2 i2 k2 a2 ok2 m2 q
 have F:=q.f2
 go_wp2_with fail
 refine q.nd (hX · (q.bd HB.out (by decide))) ?_
 clear q F
 intro w3 x3 i3 k3 a3 y3 hc3 ok3 m3 q
 have F:=q.f2
 go_upto_region 4 with fail
 go_cut [] (fun wx=>∃(kv:Value) (vs:List (List Value)) (j4:Nat) (k4 a4:Int),vs.length≤2∧Hid (k4=0→∃x y,vs.map labOf=[x,y]∧noK x∧noK y)∧(∃(yb:List Nr),Ev (fun n=>gG t n 3) ⟨i3,k3,a3⟩ (yb,⟨j4,k4,a4⟩)∧Mf 1 w rb tb cap t i k True (-32) wx j4 k4 a4 [(sz w3,x3.a),(sz w1,nk 33 (t.pos i) kv),(sz w,zeroC)] [] kv vs [] [y3,yb]))
 case first=>
  go_wp2_with fail
  go_region_law (replace q:=(q.ne' (sz w3) x3.a).drew;go_simp;refine q.nd (hB · (q.bd HB.out (by decide))) ?_;clear q F;intro w5 x5 i5 k5 a5 y5 hc5 ok5 m5 q;have F:=q.f3)
  all_goals
   go_wp2_with fail
   go_meet
   exact⟨(sl (sz w5) 2),[x3.t,x5.t],i5,k5,a5,(by simp),(fun e=>⟨_,_,rfl,hc3 (ok5.out e),hc5 e⟩),y5,m5,((((q.swap).p15 (sl (sz w5) 2)).m2 (sz w5)).less (by omega))⟩
 case rest=>
  clear F q
  obtain⟨kv,vs,j4,k4,a4,hlen,HC,yb,mm,q⟩:=hcut
  obtain⟨w6,hw⟩:∃x,x=wc:=⟨_,rfl⟩
  subst hw
  have F:=q.f3
  obtain⟨ao7,cp7,rfl⟩:=q.shape
  replace F:=q.f3
  go_wp2_with fail
  refine q.et (eat42 · _) ?_
  clear q F
  intro w8 b8 i8 hE8 m8 q
  have F:=q.f3
  go_wp2_with fail
  ·go_wp2_with fail
   refine q.lf (is41 · 0 (by decide) _) ?_
   clear q F
   intro w9 q
   have F:=q.f3
   go_wp2_with fail
   ·have HK2:Hid (k4=0):=(isB_lt h.good q.st.rd.lt ‹_›).1
    go_wp2_with fail
    go_region_law (first|(refine q.as (sz w10) (by omega) ?_;clear q F;intro w11 ao11 cp11 q;have F:=q.f3)|(replace q:=q.drew;go_simp;refine q.nd (hI.at0 HK2.out · (q.bd HB.out (by decide))) ?_;clear q F;intro w10 x10 i10 k10 a10 y10 hc10 ok10 m10 q;have F:=q.f3))
    all_goals
     go_wp2_with fail
     go_light
     exact((q.p15 (.slice ao11 (vs.length+1) cp11)).fk 33 (t.pos i) (by first|(simp;omega)|omega) hposI (hG:=fun e=>by obtain⟨x,y,h1,h2,h3⟩:=HC.out (ok10.out e);exact Gr.of_eif ⟨x,y,[_],by rw[List.map_append,h1];rfl,by simp,h2,h3,fun z hz=>by obtain rfl:=List.mem_singleton.1 hz;exact hc10 e⟩)).rt Tryz.results224 2 (by unfold gIf;exact evt)
   ·go_wp2_with fail
    go_region_law (first|(refine q.as (sz w12) (by omega) ?_;clear q F;intro w13 ao13 cp13 q;have F:=q.f3)|(replace q:=q.drew;go_simp;refine q.nd (hB · (q.bd HB.out (by decide))) ?_;clear q F;intro w12 x12 i12 k12 a12 y12 hc12 ok12 m12 q;have F:=q.f3))
    all_goals
     go_wp2_with fail
     go_light
     exact((q.p15 (.slice ao13 (vs.length+1) cp13)).fk 33 (t.pos i) (by first|(simp;omega)|omega) hposI (hG:=fun e=>by obtain⟨x,y,h1,h2,h3⟩:=HC.out (ok12.out e);exact Gr.of_eif ⟨x,y,[_],by rw[List.map_append,h1];rfl,by simp,h2,h3,fun z hz=>by obtain rfl:=List.mem_singleton.1 hz;exact hc12 e⟩)).rt Tryz.results224 2 (by unfold gIf;exact evt)
  ·go_wp2_with fail
   go_light
   exact(q.fk 33 (t.pos i) (by first|(simp;omega)|omega) hposI (hG:=fun e=>by obtain⟨x,y,h1,h2,h3⟩:=HC.out e;exact Gr.of_eif ⟨x,y,[],h1,by simp,h2,h3,by simp⟩)).rt Tryz.results224 2 (by unfold gIf;exact evt)
end Go.Proofs.YtdplogkmkgekdaaGreatDoor
namespace Go.Proofs.YtdplogkmkgekdaaGreatDoor
open Go.RowKit
theorem matchF {N:Nat} (hX:exF 176 18 N (fun t n=>gG t n 1)) (hP:exF 242 3 N (fun t n=>gG t n 5)):exKF 225 8 (N+1) (fun t n=>gMatch t (gG t n 1) (gG t n 5) n):=by
 intro w rb tb cap i t a h hN
 obtain⟨k,hk⟩:∃k:Int,k=0:=⟨_,rfl⟩
 rw[←hk] at h hN⊢
 have HK:Hid (k=0):=hk
 clear hk
 have hl:=h.l
 have HN:Hid (Bd (N+1) t i k 8):=hN
 clear hN
 have HB:Hid (∀i' k' r',(k'=0→i<i')→r'<64→Bd N t i' k' r'):=HN.out.any2 HK.out h.lt
 have hposI:(0:Int)≤(t.pos i:Int)∧(t.pos i:Int)≤7000:=by have:=h.good.posb i;omega
 go_enter Tryz.func225,Tryz.ntmps225
 have q:=Mf.start (wt:=1) h
 go_wp2_with fail
 refine(q.ne' (sz w) (zeroC)).lf (node20 · 34) ?_
 clear q
 intro w1 q
 have F:=q.f1
 go_wp2_with fail
 refine(q.ne' (sz w1) (nk 34 (t.pos i) nl)).wn (want39F · _) ?_
 clear q F
 intro w2 i2 k2 a2 ok2 m2 q
 have F:=q.f2
 go_wp2_with fail
 refine q.nd (hX · (q.bd HB.out (by decide))) ?_
 clear q F
 intro w3 x3 i3 k3 a3 y3 hc3 ok3 m3 q
 have F:=q.f2
 go_wp2_with fail
 refine((q.p05 (sl (sz w3) 1)).m1 (sz w3)).wn (want39F · _) ?_
 clear q F
 intro w4 i4 k4 a4 ok4 m4 q
 have F:=q.f2
 go_wp2_with fail
 go_loopg [4,5] (ml t i4 k4) (fun g _ _ wr=>∃(v:Value) (vs:List (List Value)) (j:Nat) (kj aj:Int),g=ml t j kj∧Few 4 vs j kj∧Hid (kj=0→∃x zs,vs.map labOf=x::zs∧noK x∧∀z∈zs,z=35)∧∃(V:List (List Nr)),Hid (∀r,EvL (fun n=>gMatchB t (gG t n 1) (gG t n 5)) V ⟨j,kj,aj⟩ r→Ev (fun n=>gMatch t (gG t n 1) (gG t n 5) n) ⟨i,k,a⟩ (nd 34 (t.pos i:Int) 0 0 E0 r.1,r.2))∧Mf 1 w rb tb cap t i k True (-40) wr j kj aj [(sz w1,nk 34 (t.pos i) v),(sz w,zeroC)] [] v vs [] V)
 case atStart=>exact⟨(sl (sz w3) 1),[x3.t],i4,k4,a4,rfl,⟨fun _=>by simp,by simp⟩,(fun e=>⟨_,[],rfl,hc3 (ok4.out e),by simp⟩),_,(fun r hr=>(by unfold gMatch;exact evt)),(q.less (by omega))⟩
 case round=>
  clear F q
  obtain⟨v,vs,j,kj,aj,hgk,hF,HC,V,HM,q⟩:=hrel
  have hj:=q.st.rd.lt
  have hposJ:(0:Int)≤(t.pos j:Int)∧(t.pos j:Int)≤7000:=by have:=h.good.posb j;omega
  have HG:Hid (gk=ml t j kj):=hgk
  clear hgk
  obtain⟨ao5,cp5,rfl⟩:=q.shape
  have F:=q.f2
  cases hk0:(kj==0)
  ·go_wp2_with fail
   refine q.lf ok21b ?_
   clear q F
   intro w6 q
   have F:=q.f2
   go_wp2_with fail
   go_light
   exact(q.fk 34 (t.pos i) (Nat.le_trans hF.2 (by decide)) hposI (hG:=fun e=>Gr.of_ematch (HC.out e))).rt Tryz.results225 1 (HM.out (_,_) (EvL.stop (by unfold gMatchB;exact evt)))
  ·obtain rfl:kj=0:=by simpa using hk0
   have HC0:Hid _:=HC.out rfl
   clear HC
   have hb1:Hid (i≤j∧k=0∧i<j):=⟨q.le,q.ok rfl,q.go trivial rfl⟩
   have HJ:Hid (∀i' k' r',j≤i'→r'<64→Bd N t i' k' r'):=fun i' k' r' h1 h2=>HN.out.any2 hb1.out.2.1 h.lt _ _ _ (fun _=>Nat.lt_of_lt_of_le hb1.out.2.2 h1) h2
   have hFl:vs.length≤6005:=by have:=hF.1 rfl;have:=h.good.few;omega
   replace q:=q.rebase
   go_wp2_with fail
   refine q.lf ok21b ?_
   clear q F
   intro w7 q
   have F:=q.f2
   go_wp2_with fail
   refine q.et (eat42 · _) ?_
   clear q F
   intro w8 b8 i8 hE8 m8 q
   have F:=q.f2
   go_wp2_with fail
   ·go_wp2_with fail
    refine q.lf (node20 · 35) ?_
    clear q F
    intro w9 q
    have F:=q.f2
    have hposA:(0:Int)≤((t.pos i8):Int)∧((t.pos i8):Int)≤7000:=by have:=h.good.posb i8;omega
    go_wp2_with fail
    replace q:=q.ne' (sz w9) (nk 35 (t.pos i8) nl)
    refine q.nd (hP · (HJ.out _ _ _ q.le (by decide))) ?_
    clear q F
    intro w10 x10 i10 k10 a10 y10 hc10 ok10 m10 q
    have F:=q.f3
    go_wp2_with fail
    refine(q.ne' (sz w10) x10.a).wn (want39F · _) ?_
    clear q F
    intro w11 i11 k11 a11 ok11 m11 q
    have F:=q.f4
    go_upto_region 9 with fail
    go_cut [] (fun wx=>∃(ad12:Nat) (j13:Nat) (k13 a13:Int),(∃(yz:List Nr),Ev (fun n=>gG t n 1) ⟨i11,k11,a11⟩ (yz,⟨j13,k13,a13⟩)∧Mf 1 w rb tb cap t j 0 True (16*((j:Int) - (i:Int))+(-71)) wx j13 k13 a13 [(sz w10,x10.a),(sz w9,nk 35 (t.pos i8) (sl ad12 2)),(sz w1,nk 34 (t.pos i) (.slice ao5 vs.length cp5)),(sz w,zeroC)] [(nk 35 (t.pos i8) (sl ad12 2)).toList] (.slice ao5 vs.length cp5) vs [nd 35 (t.pos i8:Int) 0 0 E0 [y10,yz]] V))
    case first=>
     go_wp2_with fail
     go_region_law (replace q:=q.drew;go_simp;refine q.nd (hX · (HJ.out _ _ _ q.le (by decide))) ?_;clear q F;intro w14 x14 i14 k14 a14 y14 hc14 ok14 m14 q;have F:=q.f4)
     all_goals
      go_wp2_with fail
      go_meet
      exact⟨(sz w14),i14,k14,a14,y14,m14,((((q.swap).p15 (sl (sz w14) 2)).l2 (sz w14) 35 (t.pos i8) 0 0 ⟨#[]⟩ hposA (hG:=fun e=>Gr.of_two (by decide) ⟨_,_,rfl,hc10 (ok11.out (ok14.out e)),hc14 e⟩)).less (by omega))⟩
    case rest=>
     clear F q
     obtain⟨ad12,j13,k13,a13,yz,mm,q⟩:=hcut
     obtain⟨w15,hw⟩:∃x,x=wc:=⟨_,rfl⟩
     subst hw
     have F:=q.f4
     go_wp2_with (at_builtin;refine q.ap (sz w15) (Nat.le_trans hFl (by decide)) ?_;clear q F;intro w16 ao16 cp16 q;have F:=q.f4)
     go_wp2_with fail
     refine(q.p25 (.slice ao16 (vs.length+1) cp16)).lf (is41 · 0 (by decide) _) ?_
     clear q F
     intro w17 q
     have F:=q.f4
     go_wp2_with fail
     ·go_wp2_with fail
      refine q.wn (want39F · _) ?_
      clear q F
      intro w18 i18 k18 a18 ok18 m18 q
      have F:=q.f4
      go_wp2_with fail
      replace q:=q.pop.pop
      go_roundg (ml t i18 k18)
      case measure=>rw[HG.out];exact ml_lt hj q.le (q.go trivial)
      case rel=>exact⟨(.slice ao16 (vs.length+1) cp16),(vs++[(nk 35 (t.pos i8) (sl ad12 2)).toList]),i18,k18,a18,rfl,Few.snoc (t:=t) hF rfl hj h.good (q.go trivial),(fun _=>by obtain⟨x,zs,h1,h2,h3⟩:=HC0.out;exact⟨x,zs++[35],by rw[List.map_append,h1];exact congrArg (fun l=>x::(zs++[l])) (lab_ne (by decide)),h2,all_snoc h3 rfl⟩),_,(fun r hr=>HM.out r (EvL.on (by unfold gMatchB;exact evt) hr)),q.unbase (s':= -40) (g':=True) hb1.out.1 (fun _=>hb1.out.2.1) (fun _ _=>hb1.out.2.2) (by omega)⟩
     ·go_wp2_with fail
      replace q:=q.pop.pop
      go_roundg (ml t j13 k13)
      case measure=>rw[HG.out];exact ml_lt hj q.le (q.go trivial)
      case rel=>exact⟨(.slice ao16 (vs.length+1) cp16),(vs++[(nk 35 (t.pos i8) (sl ad12 2)).toList]),j13,k13,a13,rfl,Few.snoc (t:=t) hF rfl hj h.good (q.go trivial),(fun _=>by obtain⟨x,zs,h1,h2,h3⟩:=HC0.out;exact⟨x,zs++[35],by rw[List.map_append,h1];exact congrArg (fun l=>x::(zs++[l])) (lab_ne (by decide)),h2,all_snoc h3 rfl⟩),_,(fun r hr=>HM.out r (EvL.on (by unfold gMatchB;exact evt) hr)),q.unbase (s':= -40) (g':=True) hb1.out.1 (fun _=>hb1.out.2.1) (fun _ _=>hb1.out.2.2) (by omega)⟩
   ·go_wp2_with fail
    go_light
    exact((q.fk 34 (t.pos i) (Nat.le_trans hF.2 (by decide)) hposI (hG:=fun e=>Gr.of_ematch (HC0.out))).unbase (s':= -39) (g':=True) hb1.out.1 (fun _=>hb1.out.2.1) (fun _ _=>hb1.out.2.2) (by omega)).rt Tryz.results225 1 (HM.out (_,_) (EvL.stop (by unfold gMatchB;exact evt)))
end Go.Proofs.YtdplogkmkgekdaaGreatDoor
namespace Go.Proofs.YtdplogkmkgekdaaGreatDoor
open Go.RowKit
theorem makeF {N:Nat} (hWr:liF 208 False (fun ks=>∀x∈ks,noK x) (fun t n=>gWritten t (gG t n 0) n)) (hX:exF 176 18 N (fun t n=>gG t n 1)):exKF 226 8 (N+1) (fun t n=>gMake t (gG t n 0) (gG t n 1) n):=by
 intro w rb tb cap i t a h hN
 obtain⟨k,hk⟩:∃k:Int,k=0:=⟨_,rfl⟩
 rw[←hk] at h hN⊢
 have HK:Hid (k=0):=hk
 clear hk
 have hl:=h.l
 have HN:Hid (Bd (N+1) t i k 8):=hN
 clear hN
 have HB:Hid (∀i' k' r',(k'=0→i<i')→r'<64→Bd N t i' k' r'):=HN.out.any2 HK.out h.lt
 have hposI:(0:Int)≤(t.pos i:Int)∧(t.pos i:Int)≤7000:=by have:=h.good.posb i;omega
 go_enter Tryz.func226,Tryz.ntmps226
 have q:=Mf.start (wt:=1) h
 go_wp2_with fail
 refine(q.ne' (sz w) (zeroC)).lf (node20 · 44) ?_
 clear q
 intro w1 q
 have F:=q.f1
 go_wp2_with fail
 refine(q.ne' (sz w1) (nk 44 (t.pos i) nl)).wn (want39F · _) ?_
 clear q F
 intro w2 i2 k2 a2 ok2 m2 q
 have F:=q.f2
 go_wp2_with fail
 refine q.nm (path80F · 2 (by decide) (by decide)) ?_
 clear q F
 intro w3 s3 i3 k3 a3 hs3 ho3 ok3 m3 q
 have F:=q.f2
 go_wp2_with fail
 refine(q.p04 s3).ln hWr ?_
 clear q F
 intro w4 ao4 cp4 vs4 i4 k4 a4 V4 hl4 hP4 ok4 m4 q
 have hV4:Hid (V4.length=vs4.length):=q.fv.len
 have F:=q.f2
 go_wp2_with fail
 refine((q.p05 (.slice ao4 vs4.length cp4)).p03 (vs4.length:Int)).wn (want39F · _) ?_
 clear q F
 intro w5 i5 k5 a5 ok5 m5 q
 have F:=q.f2
 go_wp2_with fail
 go_loopg [4] (ml t i5 k5) (fun g _ wr=>∃(v:Value) (vs:List (List Value)) (j:Nat) (kj aj:Int),g=ml t j kj∧Few 6002 vs j kj∧Hid (kj=0→pathOK 2 s3∧∃ts zs,vs.map labOf=ts++zs∧ts.length=vs4.length∧(∀x∈ts,noK x)∧∀z∈zs,z=45)∧∃(V:List (List Nr)),Hid (∀r,EvL (fun n=>gMakeB t (gG t n 1)) V ⟨j,kj,aj⟩ r→Ev (fun n=>gMake t (gG t n 0) (gG t n 1) n) ⟨i,k,a⟩ (nd 44 (t.pos i:Int) 0 (vs4.length:Int) s3 r.1,r.2))∧Mf 1 w rb tb cap t i k True (-48) wr j kj aj [(sz w1,nodeC 44 (t.pos i) 0 (vs4.length:Int) s3 v),(sz w,zeroC)] [] v vs [] V)
 case atStart=>exact⟨(.slice ao4 vs4.length cp4),vs4,i5,k5,a5,rfl,⟨fun e=>Nat.le_trans hl4 (Nat.le_add_left _ _),Nat.le_trans hl4 (by decide)⟩,(fun e=>⟨ho3 (ok4.out (ok5.out e)),vs4.map labOf,[],by simp,by simp,hP4 (ok5.out e),by simp⟩),V4,(fun r hr=>by rw[←hV4.out];unfold gMake;exact evt),(q.less (by omega))⟩
 case round=>
  clear F q
  obtain⟨v,vs,j,kj,aj,hgk,hF,HC,V,HM,q⟩:=hrel
  have hj:=q.st.rd.lt
  have hposJ:(0:Int)≤(t.pos j:Int)∧(t.pos j:Int)≤7000:=by have:=h.good.posb j;omega
  have HG:Hid (gk=ml t j kj):=hgk
  clear hgk
  obtain⟨ao6,cp6,rfl⟩:=q.shape
  have F:=q.f2
  cases hk0:(kj==0)
  ·go_wp2_with fail
   refine q.lf ok21b ?_
   clear q F
   intro w7 q
   have F:=q.f2
   go_wp2_with fail
   go_light
   exact(q.fo 44 (t.pos i) 0 (vs4.length:Int) s3 (Nat.le_trans hF.2 (by decide)) hposI hs3 (hG:=fun e=>by obtain⟨h0,ts,zs,h1,h2,h3,h4⟩:=HC.out e;exact Gr.of_make ⟨h0,ts,zs,h1,by rw[h2],h3,h4⟩)).rt Tryz.results226 1 (HM.out (_,_) (EvL.stop (by unfold gMakeB;exact evt)))
  ·obtain rfl:kj=0:=by simpa using hk0
   have HC0:Hid _:=HC.out rfl
   clear HC
   have hb1:Hid (i≤j∧k=0∧i<j):=⟨q.le,q.ok rfl,q.go trivial rfl⟩
   have HJ:Hid (∀i' k' r',j≤i'→r'<64→Bd N t i' k' r'):=fun i' k' r' h1 h2=>HN.out.any2 hb1.out.2.1 h.lt _ _ _ (fun _=>Nat.lt_of_lt_of_le hb1.out.2.2 h1) h2
   have hFl:vs.length≤12003:=by have:=hF.1 rfl;have:=h.good.few;omega
   replace q:=q.rebase
   go_wp2_with fail
   refine q.lf ok21b ?_
   clear q F
   intro w8 q
   have F:=q.f2
   go_wp2_with fail
   refine q.et (eat42 · _) ?_
   clear q F
   intro w9 b9 i9 hE9 m9 q
   have F:=q.f2
   go_wp2_with fail
   ·go_wp2_with fail
    refine q.lf (node20 · 45) ?_
    clear q F
    intro w10 q
    have F:=q.f2
    have hposA:(0:Int)≤((t.pos i9):Int)∧((t.pos i9):Int)≤7000:=by have:=h.good.posb i9;omega
    go_wp2_with fail
    refine(q.ne' (sz w10) (nk 45 (t.pos i9) nl)).nm name40F ?_
    clear q F
    intro w11 s11 i11 k11 a11 hs11 ho11 ok11 m11 q
    have F:=q.f3
    go_wp2_with fail
    refine(q.p04 s11).wn (want39F · _) ?_
    clear q F
    intro w12 i12 k12 a12 ok12 m12 q
    have F:=q.f3
    go_wp2_with fail
    refine q.nd (hX · (HJ.out _ _ _ q.le (by decide))) ?_
    clear q F
    intro w13 x13 i13 k13 a13 y13 hc13 ok13 m13 q
    have F:=q.f3
    go_wp2_with (at_builtin;refine((q.p05 (sl (sz w13) 1)).l1 (sz w13) 45 (t.pos i9) 0 0 s11 hposA (Nat.le_trans hs11 (by decide)) (hG:=fun e=>Gr.of_one (by decide) ⟨_,rfl,hc13 e⟩)).ap ((sz w13)+1) (Nat.le_trans hFl (by decide)) ?_;clear q F;intro w14 ao14 cp14 q;have F:=q.f3)
    go_wp2_with fail
    refine(q.p15 (.slice ao14 (vs.length+1) cp14)).lf (is41 · 0 (by decide) _) ?_
    clear q F
    intro w15 q
    have F:=q.f3
    go_wp2_with fail
    ·go_wp2_with fail
     refine q.wn (want39F · _) ?_
     clear q F
     intro w16 i16 k16 a16 ok16 m16 q
     have F:=q.f3
     go_wp2_with fail
     replace q:=q.pop
     go_roundg (ml t i16 k16)
     case measure=>rw[HG.out];exact ml_lt hj q.le (q.go trivial)
     case rel=>exact⟨(.slice ao14 (vs.length+1) cp14),(vs++[(nodeC 45 (t.pos i9) 0 0 s11 (sl (sz w13) 1)).toList]),i16,k16,a16,rfl,Few.snoc (t:=t) hF rfl hj h.good (q.go trivial),(fun _=>by obtain⟨h0,ts,zs,h1,h2,h3,h4⟩:=HC0.out;exact⟨h0,ts,zs++[45],by rw[List.map_append,h1,List.append_assoc];exact congrArg (fun l=>ts++(zs++[l])) (lab_ne (by decide)),h2,h3,all_snoc h4 rfl⟩),_,(fun r hr=>HM.out r (EvL.on (by unfold gMakeB;exact evt) hr)),q.unbase (s':= -48) (g':=True) hb1.out.1 (fun _=>hb1.out.2.1) (fun _ _=>hb1.out.2.2) (by omega)⟩
    ·go_wp2_with fail
     replace q:=q.pop
     go_roundg (ml t i13 k13)
     case measure=>rw[HG.out];exact ml_lt hj q.le (q.go trivial)
     case rel=>exact⟨(.slice ao14 (vs.length+1) cp14),(vs++[(nodeC 45 (t.pos i9) 0 0 s11 (sl (sz w13) 1)).toList]),i13,k13,a13,rfl,Few.snoc (t:=t) hF rfl hj h.good (q.go trivial),(fun _=>by obtain⟨h0,ts,zs,h1,h2,h3,h4⟩:=HC0.out;exact⟨h0,ts,zs++[45],by rw[List.map_append,h1,List.append_assoc];exact congrArg (fun l=>ts++(zs++[l])) (lab_ne (by decide)),h2,h3,all_snoc h4 rfl⟩),_,(fun r hr=>HM.out r (EvL.on (by unfold gMakeB;exact evt) hr)),q.unbase (s':= -48) (g':=True) hb1.out.1 (fun _=>hb1.out.2.1) (fun _ _=>hb1.out.2.2) (by omega)⟩
   ·go_wp2_with fail
    go_light
    exact((q.fo 44 (t.pos i) 0 (vs4.length:Int) s3 (Nat.le_trans hF.2 (by decide)) hposI hs3 (hG:=fun e=>by obtain⟨h0,ts,zs,h1,h2,h3,h4⟩:=HC0.out;exact Gr.of_make ⟨h0,ts,zs,h1,by rw[h2],h3,h4⟩)).unbase (s':= -47) (g':=True) hb1.out.1 (fun _=>hb1.out.2.1) (fun _ _=>hb1.out.2.2) (by omega)).rt Tryz.results226 1 (HM.out (_,_) (EvL.stop (by unfold gMakeB;exact evt)))
end Go.Proofs.YtdplogkmkgekdaaGreatDoor
