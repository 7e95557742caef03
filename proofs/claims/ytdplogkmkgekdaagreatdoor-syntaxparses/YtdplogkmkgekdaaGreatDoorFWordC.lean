/- Expressions that begin with a word. -/
import Derived.Test.YtdplogkmkgekdaaGreatDoorFRefdn
set_option linter.all false
set_option maxRecDepth 100000
set_option maxHeartbeats 4000000
namespace Go.Proofs.YtdplogkmkgekdaaGreatDoor
open Go.RowKit
theorem primaryF {N:Nat} (hWr:liF 208 False (fun ks=>∀x∈ks,noK x) (fun t n=>gWritten t (gG t n 0) n)) (hXs:exsF 209 19 N (fun t n=>gList t (gG t n 1) ⟨#[41]⟩ n)) (hBl:exF 104 7 N (fun t n=>gG t n 3)) (hW:exWF N):exF 175 10 (N+1) (fun t n=>gPrimary t (gG t n 0) (gG t n 1) (gG t n 3) (gG t n 5) (gG t n 4) n):=by
 intro w rb tb cap i t k a h hN
 have hl:=h.l
 have HN:Hid (Bd (N+1) t i k 10):=hN
 clear hN
 have hposI:(0:Int)≤(t.pos i:Int)∧(t.pos i:Int)≤7000:=by have:=h.good.posb i;omega
 go_enter Tryz.func175,Tryz.ntmps175
 have hi:(i:Int)<(t.len:Int):=by have:=h.lt;omega
 have hfew:(t.len:Int)≤6001:=by have:=h.good.few;omega
 have q:=Mf.start (wt:=1) h
 go_wp2_with fail
 refine(q.ne' (sz w) (zeroC)).lf (node20 · 0) ?_
 clear q
 intro w1 q
 have F:=q.f1
 go_wp2_with fail
 refine(q.ne' (sz w1) (nk 0 (t.pos i) nl)).lf tok38 ?_
 clear q F
 intro w2 q
 have F:=q.f2
 go_wp2_with fail
 refine(ok21b (q.alloc _).st.rd).mono ?_
 rintro e w3 ⟨rfl,hb3⟩
 have ne_t_rb:(sz w2)≠rb:=Nat.ne_of_gt (Nat.lt_of_lt_of_le hl q.st.size)
 have l_n:=(q.fa 0 rfl).2.2.1
 have ne_t_n:(sz w2)≠(sz w1):=Nat.ne_of_gt l_n
 have ne_n_t:(sz w1)≠(sz w2):=Nat.ne_of_lt l_n
 have l_z:=(q.fa 1 rfl).2.2.1
 have ne_t_z:(sz w2)≠(sz w):=Nat.ne_of_gt l_z
 have ne_z_t:(sz w)≠(sz w2):=Nat.ne_of_lt l_z
 have hT:w3.heap[(sz w2)]? =some (.cells #[.int .i64 (t.kind i),.int .i64 (t.pos i),.string (t.text i),.int .i64 (t.num i)] 67 (0,0)):=(hb3.block (sz w2) (by simp)).trans (heap_alloc_new w2 _)
 replace q:=(q.alloc _).below hb3
 clear hb3
 replace F:=q.f2
 have c_t:∀o,w3.cell? ⟨(sz w2),o,none⟩=(#[.int .i64 (t.kind i),.int .i64 (t.pos i),.string (t.text i),.int .i64 (t.num i)]:Array Value)[o]? :=fun o=>cell_of_row _ _ o _ 67 (0,0) hT
 have l_t:(sz w2)<(sz w3):=(Array.getElem?_eq_some_iff.1 hT).1
 cases hk0:(k==0)
 ·have hkn:k≠0:=by simpa using hk0
  go_wp2_with fail
  go_light
  exact(((q.up (g':=True) (fun _ e=>absurd e hkn)).dead (s':= -100) hkn).lk 0 (t.pos i) 0 0 ⟨#[]⟩ hposI (by decide) (fun e=>absurd e hkn)).rt Tryz.results175 1 (by unfold gPrimary;exact evt) (hC:=fun e=>absurd e hkn)
 ·have HK:Hid (k=0):=by show k=0;simpa using hk0
  have HB:Hid (∀i' k' r',(k'=0→i<i')→r'<64→Bd N t i' k' r'):=HN.out.any2 HK.out h.lt
  by_cases h1:t.kind i=1
  ·have hlt:i+1<t.len:=kind_lt h.good h.lt (by omega)
   have h1':(t.kind i:Int)=1:=by omega
   have r1:=q.st.rd.r1
   have fr1:=q.st.rd.fz 1
   have lr:=q.st.rd.l
   go_wp2_with fail
   go_light
   exact((((q.p00 20).p02 (t.num i:Int)).goI (j':=i+1) hlt (Nat.lt_succ_self _)).lk 20 (t.pos i) (t.num i:Int) 0 ⟨#[]⟩ hposI (hG:=fun _=>Gr.of_eint (by have:=h.good.numb i;omega))).rt Tryz.results175 1 (by unfold gPrimary;exact evt)
  ·have h1':((t.kind i:Int)==1)=false:=by simp;omega
   by_cases h2:t.kind i=2
   ·have h2':(t.kind i:Int)=2:=by omega
    go_wp2_with fail
    refine(q.p00 23).nm (path80F · 3 (by decide) (by decide)) ?_
    clear q F c_t l_t
    intro w4 s4 i4 k4 a4 hs4 ho4 ok4 m4 q
    have F:=q.f2
    go_wp2_with fail
    refine(q.p04 s4).ln hWr ?_
    clear q F
    intro w5 ao5 cp5 vs5 i5 k5 a5 V5 hl5 hP5 ok5 m5 q
    have F:=q.f2
    go_wp2_with fail
    go_light
    exact((q.p05 (.slice ao5 vs5.length cp5)).fo 23 (t.pos i) 0 0 s4 (Nat.le_trans hl5 (by decide)) hposI hs4 (hG:=fun e=>Gr.of_pathed (by decide) ⟨ho4 (ok5.out e),hP5 e⟩)).rt Tryz.results175 1 (by unfold gPrimary;exact evt)
   ·have h2':((t.kind i:Int)==2)=false:=by simp;omega
    cases hp:isB t i k 0 ⟨#[40]⟩
    ·go_wp2_with fail
     refine(eat_no q.st.rd _ hp).mono ?_
     rintro e w6 ⟨rfl,hb6⟩
     replace hT:=(hb6.block _ (Array.getElem?_eq_some_iff.1 hT).1).trans hT
     replace q:=q.below hb6
     clear hb6
     replace F:=q.f2
     clear c_t l_t
     go_wp2_with fail
     refine(is41 q.st.rd 0 (by decide) _).mono ?_
     rintro e w7 ⟨rfl,hb7⟩
     replace hT:=(hb7.block _ (Array.getElem?_eq_some_iff.1 hT).1).trans hT
     replace q:=q.below hb7
     clear hb7
     replace F:=q.f2
     have c_t:∀o,w7.cell? ⟨(sz w2),o,none⟩=(#[.int .i64 (t.kind i),.int .i64 (t.pos i),.string (t.text i),.int .i64 (t.num i)]:Array Value)[o]? :=fun o=>cell_of_row _ _ o _ 67 (0,0) hT
     have l_t:(sz w2)<(sz w7):=(Array.getElem?_eq_some_iff.1 hT).1
     by_cases h3:t.kind i=3
     ·have h3':(t.kind i:Int)=3:=by omega
      go_wp2_with fail
      ·go_wp2_with fail
       refine q.nd (hBl · (HN.out.down q.le q.ok (by decide))) ?_
       clear q F c_t l_t
       intro w8 x8 i8 k8 a8 y8 hc8 ok8 m8 q
       have F:=q.f2
       go_wp2_with fail
       go_light
       exact q.rt Tryz.results175 1 (by unfold gPrimary;exact evt) (hC:=hc8)
      ·go_wp2_with fail
       refine q.nd (hW.at0 HK.out h3 · (HN.out.down q.le q.ok (by decide))) ?_
       clear q F c_t l_t
       intro w9 x9 i9 k9 a9 y9 hc9 ok9 m9 q
       have F:=q.f2
       go_wp2_with fail
       go_light
       exact q.rt Tryz.results175 1 (by unfold gPrimary;exact evt) (hC:=hc9)
     ·have h3':((t.kind i:Int)==3)=false:=by simp;omega
      go_wp2_with fail
      ·go_wp2_with fail
       refine q.nd (hBl · (HN.out.down q.le q.ok (by decide))) ?_
       clear q F c_t l_t
       intro w10 x10 i10 k10 a10 y10 hc10 ok10 m10 q
       have F:=q.f2
       go_wp2_with fail
       go_light
       exact q.rt Tryz.results175 1 (by unfold gPrimary;exact evt) (hC:=hc10)
      ·go_wp2_with fail
       refine(bad64F q.st.rd).mono ?_
       rintro e w11 ⟨rfl,⟨k11,a11,hk11,h11,m11⟩,hk11'⟩
       replace q:=((q.rk h11 hk11' (Nat.le_refl _) (fun e=>absurd e hk11)).up (g':=True) (fun _ e=>absurd e hk11)).dead (s':=(-100)) hk11
       clear h11 hk11'
       replace F:=q.f2
       clear c_t l_t
       go_wp2_with fail
       go_light
       exact(q.lk 0 (t.pos i) 0 0 ⟨#[]⟩ hposI (by decide) (fun e=>absurd e hk11)).rt Tryz.results175 1 (by unfold gPrimary;exact evt) (hC:=fun e=>absurd e hk11)
    ·go_wp2_with fail
     refine q.ey (eat_yes · _ hp) ?_
     clear q F c_t l_t
     intro w12 q
     have F:=q.f2
     go_wp2_with fail
     replace q:=q.p00 22
     refine q.li (hXs · (q.bd HB.out (by decide))) ?_
     clear q F
     intro w13 ao13 cp13 vs13 i13 k13 a13 V13 hl13 hP13 ok13 m13 q
     have F:=q.f2
     by_cases hlen:vs13.length=1
     ·obtain⟨gb,rfl,hgl,hgr,hgn,q14,p14,n14,m14,s14,ko14,kl14,kc14,rfl,hcell⟩:=q.first hlen
      obtain⟨y13,rfl⟩:=q.one rfl
      obtain⟨gn1,gn2⟩:=q.notin hgn 0 rfl
      obtain⟨gz1,gz2⟩:=q.notin hgn 1 rfl
      go_wp2_with fail
      go_light
      exact Mf.retb (C:=noK) (d:=8) Tryz.results175 rfl rfl (q.p05 (.slice (some ⟨gb,0,none⟩) 1 cp13)).toT 1 rfl (fun e=>hP13 e _ (List.mem_cons_self ..)) (by omega) rfl (by unfold gPrimary;exact evt)
     ·have hlen':((vs13.length:Int)==1)=false:=by simp;omega
      have hV13:V13.length≠1:=by rw[q.fv.len];exact hlen
      go_wp2_with fail
      go_light
      exact((q.p05 (.slice ao13 vs13.length cp13)).fk 22 (t.pos i) (Nat.le_trans hl13 (by decide)) hposI (hG:=fun e=>Gr.of_all (by decide) (hP13 e))).rt Tryz.results175 1 (by unfold gPrimary;exact evt)
end Go.Proofs.YtdplogkmkgekdaaGreatDoor
namespace Go.Proofs.YtdplogkmkgekdaaGreatDoor
open Go.RowKit
theorem wordedF_0 {N:Nat} {w:World} {rb tb cap i:Nat} {t:Tk} {k a:Int} (hkw:t.kind i=3) (h:Rd w rb tb cap t i k a) (hk:k=0) (hN:Bd (N+1) t i k 9) (t0:((t.text i).toList==[116,114,117,101])=true):Calls Tryz.prog 210 #[.pointer (some ⟨rb,0,none⟩)] w (NodeF 1 w rb tb cap t i k a True 8 noK (fun n=>gWorded t (gG t n 0) (gG t n 1) (gG t n 3) (gG t n 5) (gG t n 4) n)):=by
 have HK:Hid (k=0):=hk
 clear hk
 have hl:=h.l
 have HN:Hid (Bd (N+1) t i k 9):=hN
 clear hN
 have HB:Hid (∀i' k' r',(k'=0→i<i')→r'<64→Bd N t i' k' r'):=HN.out.any2 HK.out h.lt
 have hposI:(0:Int)≤(t.pos i:Int)∧(t.pos i:Int)≤7000:=by have:=h.good.posb i;omega
 go_enter Tryz.func210,Tryz.ntmps210
 have hi:(i:Int)<(t.len:Int):=by have:=h.lt;omega
 have hfew:(t.len:Int)≤6001:=by have:=h.good.few;omega
 have hlt:i+1<t.len:=kind_lt h.good h.lt (by omega)
 have hfd:=fld103_2
 have q:=Mf.start (wt:=1) h
 go_wp2_with fail
 refine(q.ne' (sz w) (zeroC)).lf (node20 · 0) ?_
 clear q
 intro w1 q
 have F:=q.f1
 go_wp2_with fail
 refine(q.ne' (sz w1) (nk 0 (t.pos i) nl)).lf tok38 ?_
 clear q F
 intro w2 q
 have F:=q.f2
 go_wp2_with fail
 refine(q.p00 21).lf tok38 ?_
 clear q F
 intro w3 q
 have F:=q.f2
 have r1:=q.st.rd.r1
 have fr1:=q.st.rd.fz 1
 have lr:=q.st.rd.l
 go_wp2_with fail
 go_light
 exact(((q.p02 1).goI (j':=i+1) hlt (Nat.lt_succ_self _)).lk 21 (t.pos i) 1 0 ⟨#[]⟩ hposI (hG:=fun _=>Gr.of_ebool (by decide) (.inr rfl))).rt Tryz.results210 1 (by unfold gWorded;exact evt)
theorem wordedF_1 {N:Nat} {w:World} {rb tb cap i:Nat} {t:Tk} {k a:Int} (hkw:t.kind i=3) (h:Rd w rb tb cap t i k a) (hk:k=0) (hN:Bd (N+1) t i k 9) (t0:((t.text i).toList==[116,114,117,101])=false) (t1:((t.text i).toList==[102,97,108,115,101])=true):Calls Tryz.prog 210 #[.pointer (some ⟨rb,0,none⟩)] w (NodeF 1 w rb tb cap t i k a True 8 noK (fun n=>gWorded t (gG t n 0) (gG t n 1) (gG t n 3) (gG t n 5) (gG t n 4) n)):=by
 have HK:Hid (k=0):=hk
 clear hk
 have hl:=h.l
 have HN:Hid (Bd (N+1) t i k 9):=hN
 clear hN
 have HB:Hid (∀i' k' r',(k'=0→i<i')→r'<64→Bd N t i' k' r'):=HN.out.any2 HK.out h.lt
 have hposI:(0:Int)≤(t.pos i:Int)∧(t.pos i:Int)≤7000:=by have:=h.good.posb i;omega
 go_enter Tryz.func210,Tryz.ntmps210
 have hi:(i:Int)<(t.len:Int):=by have:=h.lt;omega
 have hfew:(t.len:Int)≤6001:=by have:=h.good.few;omega
 have hlt:i+1<t.len:=kind_lt h.good h.lt (by omega)
 have hfd:=fld103_2
 have q:=Mf.start (wt:=1) h
 go_wp2_with fail
 refine(q.ne' (sz w) (zeroC)).lf (node20 · 0) ?_
 clear q
 intro w1 q
 have F:=q.f1
 go_wp2_with fail
 refine(q.ne' (sz w1) (nk 0 (t.pos i) nl)).lf tok38 ?_
 clear q F
 intro w2 q
 have F:=q.f2
 go_wp2_with fail
 refine(q.p00 21).lf tok38 ?_
 clear q F
 intro w3 q
 have F:=q.f2
 have r1:=q.st.rd.r1
 have fr1:=q.st.rd.fz 1
 have lr:=q.st.rd.l
 go_wp2_with fail
 go_light
 exact((q.goI (j':=i+1) hlt (Nat.lt_succ_self _)).lk 21 (t.pos i) 0 0 ⟨#[]⟩ hposI (hG:=fun _=>Gr.of_ebool (by decide) (.inl rfl))).rt Tryz.results210 1 (by unfold gWorded;exact evt)
theorem wordedF_2 {N:Nat} {w:World} {rb tb cap i:Nat} {t:Tk} {k a:Int} (hkw:t.kind i=3) (h:Rd w rb tb cap t i k a) (hk:k=0) (hN:Bd (N+1) t i k 9) (t0:((t.text i).toList==[116,114,117,101])=false) (t1:((t.text i).toList==[102,97,108,115,101])=false) (t2:((t.text i).toList==[98,114,101,97,107])=true):Calls Tryz.prog 210 #[.pointer (some ⟨rb,0,none⟩)] w (NodeF 1 w rb tb cap t i k a True 8 noK (fun n=>gWorded t (gG t n 0) (gG t n 1) (gG t n 3) (gG t n 5) (gG t n 4) n)):=by
 have HK:Hid (k=0):=hk
 clear hk
 have hl:=h.l
 have HN:Hid (Bd (N+1) t i k 9):=hN
 clear hN
 have HB:Hid (∀i' k' r',(k'=0→i<i')→r'<64→Bd N t i' k' r'):=HN.out.any2 HK.out h.lt
 have hposI:(0:Int)≤(t.pos i:Int)∧(t.pos i:Int)≤7000:=by have:=h.good.posb i;omega
 go_enter Tryz.func210,Tryz.ntmps210
 have hi:(i:Int)<(t.len:Int):=by have:=h.lt;omega
 have hfew:(t.len:Int)≤6001:=by have:=h.good.few;omega
 have hlt:i+1<t.len:=kind_lt h.good h.lt (by omega)
 have hfd:=fld103_2
 have q:=Mf.start (wt:=1) h
 go_wp2_with fail
 refine(q.ne' (sz w) (zeroC)).lf (node20 · 0) ?_
 clear q
 intro w1 q
 have F:=q.f1
 go_wp2_with fail
 refine(q.ne' (sz w1) (nk 0 (t.pos i) nl)).lf tok38 ?_
 clear q F
 intro w2 q
 have F:=q.f2
 have r1:=q.st.rd.r1
 have fr1:=q.st.rd.fz 1
 have lr:=q.st.rd.l
 go_wp2_with fail
 go_light
 exact(((q.p00 38).goI (j':=i+1) hlt (Nat.lt_succ_self _)).lk 38 (t.pos i) 0 0 ⟨#[]⟩ hposI).rt Tryz.results210 1 (by unfold gWorded;exact evt)
theorem wordedF_3 {N:Nat} {w:World} {rb tb cap i:Nat} {t:Tk} {k a:Int} (hkw:t.kind i=3) (h:Rd w rb tb cap t i k a) (hk:k=0) (hN:Bd (N+1) t i k 9) (t0:((t.text i).toList==[116,114,117,101])=false) (t1:((t.text i).toList==[102,97,108,115,101])=false) (t2:((t.text i).toList==[98,114,101,97,107])=false) (t3:((t.text i).toList==[110,101,120,116])=true):Calls Tryz.prog 210 #[.pointer (some ⟨rb,0,none⟩)] w (NodeF 1 w rb tb cap t i k a True 8 noK (fun n=>gWorded t (gG t n 0) (gG t n 1) (gG t n 3) (gG t n 5) (gG t n 4) n)):=by
 have HK:Hid (k=0):=hk
 clear hk
 have hl:=h.l
 have HN:Hid (Bd (N+1) t i k 9):=hN
 clear hN
 have HB:Hid (∀i' k' r',(k'=0→i<i')→r'<64→Bd N t i' k' r'):=HN.out.any2 HK.out h.lt
 have hposI:(0:Int)≤(t.pos i:Int)∧(t.pos i:Int)≤7000:=by have:=h.good.posb i;omega
 go_enter Tryz.func210,Tryz.ntmps210
 have hi:(i:Int)<(t.len:Int):=by have:=h.lt;omega
 have hfew:(t.len:Int)≤6001:=by have:=h.good.few;omega
 have hlt:i+1<t.len:=kind_lt h.good h.lt (by omega)
 have hfd:=fld103_2
 have q:=Mf.start (wt:=1) h
 go_wp2_with fail
 refine(q.ne' (sz w) (zeroC)).lf (node20 · 0) ?_
 clear q
 intro w1 q
 have F:=q.f1
 go_wp2_with fail
 refine(q.ne' (sz w1) (nk 0 (t.pos i) nl)).lf tok38 ?_
 clear q F
 intro w2 q
 have F:=q.f2
 have r1:=q.st.rd.r1
 have fr1:=q.st.rd.fz 1
 have lr:=q.st.rd.l
 go_wp2_with fail
 go_light
 exact(((q.p00 39).goI (j':=i+1) hlt (Nat.lt_succ_self _)).lk 39 (t.pos i) 0 0 ⟨#[]⟩ hposI).rt Tryz.results210 1 (by unfold gWorded;exact evt)
theorem wordedF_4 {N:Nat} {w:World} {rb tb cap i:Nat} {t:Tk} {k a:Int} (hkw:t.kind i=3) (h:Rd w rb tb cap t i k a) (hk:k=0) (hN:Bd (N+1) t i k 9) (t0:((t.text i).toList==[116,114,117,101])=false) (t1:((t.text i).toList==[102,97,108,115,101])=false) (t2:((t.text i).toList==[98,114,101,97,107])=false) (t3:((t.text i).toList==[110,101,120,116])=false) (t4:((t.text i).toList==[112,97,110,105,99])=true):Calls Tryz.prog 210 #[.pointer (some ⟨rb,0,none⟩)] w (NodeF 1 w rb tb cap t i k a True 8 noK (fun n=>gWorded t (gG t n 0) (gG t n 1) (gG t n 3) (gG t n 5) (gG t n 4) n)):=by
 have HK:Hid (k=0):=hk
 clear hk
 have hl:=h.l
 have HN:Hid (Bd (N+1) t i k 9):=hN
 clear hN
 have HB:Hid (∀i' k' r',(k'=0→i<i')→r'<64→Bd N t i' k' r'):=HN.out.any2 HK.out h.lt
 have hposI:(0:Int)≤(t.pos i:Int)∧(t.pos i:Int)≤7000:=by have:=h.good.posb i;omega
 go_enter Tryz.func210,Tryz.ntmps210
 have hi:(i:Int)<(t.len:Int):=by have:=h.lt;omega
 have hfew:(t.len:Int)≤6001:=by have:=h.good.few;omega
 have hlt:i+1<t.len:=kind_lt h.good h.lt (by omega)
 have hfd:=fld103_2
 have q:=Mf.start (wt:=1) h
 go_wp2_with fail
 refine(q.ne' (sz w) (zeroC)).lf (node20 · 0) ?_
 clear q
 intro w1 q
 have F:=q.f1
 go_wp2_with fail
 refine(q.ne' (sz w1) (nk 0 (t.pos i) nl)).lf tok38 ?_
 clear q F
 intro w2 q
 have F:=q.f2
 have r1:=q.st.rd.r1
 have fr1:=q.st.rd.fz 1
 have lr:=q.st.rd.l
 go_wp2_with fail
 go_light
 exact(((q.p00 41).goI (j':=i+1) hlt (Nat.lt_succ_self _)).lk 41 (t.pos i) 0 0 ⟨#[]⟩ hposI).rt Tryz.results210 1 (by unfold gWorded;exact evt)
end Go.Proofs.YtdplogkmkgekdaaGreatDoor
namespace Go.Proofs.YtdplogkmkgekdaaGreatDoor
open Go.RowKit
theorem wordedF_5 {N:Nat} (hX:exF 176 18 N (fun t n=>gG t n 1)) {w:World} {rb tb cap i:Nat} {t:Tk} {k a:Int} (hkw:t.kind i=3) (h:Rd w rb tb cap t i k a) (hk:k=0) (hN:Bd (N+1) t i k 9) (t0:((t.text i).toList==[116,114,117,101])=false) (t1:((t.text i).toList==[102,97,108,115,101])=false) (t2:((t.text i).toList==[98,114,101,97,107])=false) (t3:((t.text i).toList==[110,101,120,116])=false) (t4:((t.text i).toList==[112,97,110,105,99])=false) (t5:((t.text i).toList==[114,101,116,117,114,110])=true):Calls Tryz.prog 210 #[.pointer (some ⟨rb,0,none⟩)] w (NodeF 1 w rb tb cap t i k a True 8 noK (fun n=>gWorded t (gG t n 0) (gG t n 1) (gG t n 3) (gG t n 5) (gG t n 4) n)):=by
 have HK:Hid (k=0):=hk
 clear hk
 have hl:=h.l
 have HN:Hid (Bd (N+1) t i k 9):=hN
 clear hN
 have HB:Hid (∀i' k' r',(k'=0→i<i')→r'<64→Bd N t i' k' r'):=HN.out.any2 HK.out h.lt
 have hposI:(0:Int)≤(t.pos i:Int)∧(t.pos i:Int)≤7000:=by have:=h.good.posb i;omega
 go_enter Tryz.func210,Tryz.ntmps210
 have hi:(i:Int)<(t.len:Int):=by have:=h.lt;omega
 have hfew:(t.len:Int)≤6001:=by have:=h.good.few;omega
 have hlt:i+1<t.len:=kind_lt h.good h.lt (by omega)
 have hfd:=fld103_2
 have q:=Mf.start (wt:=1) h
 go_wp2_with fail
 refine(q.ne' (sz w) (zeroC)).lf (node20 · 0) ?_
 clear q
 intro w1 q
 have F:=q.f1
 go_wp2_with fail
 refine(q.ne' (sz w1) (nk 0 (t.pos i) nl)).lf tok38 ?_
 clear q F
 intro w2 q
 have F:=q.f2
 have r1:=q.st.rd.r1
 have fr1:=q.st.rd.fz 1
 have lr:=q.st.rd.l
 cases hr0:isB t (i+1) k 0 ⟨#[59]⟩
 ·cases hr1:isB t (i+1) k 0 ⟨#[125]⟩
  ·cases hr2:isB t (i+1) k 0 ⟨#[41]⟩
   ·cases hr3:isB t (i+1) k 0 ⟨#[44]⟩
    ·cases hr4:isB t (i+1) k 0 ⟨#[93]⟩
     ·go_wp2_with fail
      refine((q.p00 40).goI (j':=i+1) hlt (Nat.lt_succ_self _)).lf (is41 · 0 (by decide) _) ?_
      clear q F r1 fr1 lr
      intro w3 q
      have F:=q.f2
      go_wp2_with fail
      refine q.lf (is41 · 0 (by decide) _) ?_
      clear q F
      intro w4 q
      have F:=q.f2
      go_wp2_with fail
      refine q.lf (is41 · 0 (by decide) _) ?_
      clear q F
      intro w5 q
      have F:=q.f2
      go_wp2_with fail
      refine q.lf (is41 · 0 (by decide) _) ?_
      clear q F
      intro w6 q
      have F:=q.f2
      go_wp2_with fail
      refine q.lf (is41 · 0 (by decide) _) ?_
      clear q F
      intro w7 q
      have F:=q.f2
      go_wp2_with fail
      refine q.nd (hX · (q.bd HB.out (by decide))) ?_
      clear q F
      intro w8 x8 i8 k8 a8 y8 hc8 ok8 m8 q
      have F:=q.f2
      go_wp2_with fail
      go_light
      refine((q.p05 (sl (sz w8) 1)).l1 (sz w8) 40 (t.pos i) 0 0 ⟨#[]⟩ hposI (hG:=fun e=>Gr.of_gives ⟨by simp,fun x hx=>by have h9:=List.mem_singleton.1 hx;rw[h9];exact hc8 e⟩)).rt Tryz.results210 1 (by unfold gWorded;exact evt) ?_
      simp[set11,World.setCell_alloc_past,F,Nat.lt_succ_of_lt]
     ·go_wp2_with fail
      refine((q.p00 40).goI (j':=i+1) hlt (Nat.lt_succ_self _)).lf (is41 · 0 (by decide) _) ?_
      clear q F r1 fr1 lr
      intro w9 q
      have F:=q.f2
      go_wp2_with fail
      refine q.lf (is41 · 0 (by decide) _) ?_
      clear q F
      intro w10 q
      have F:=q.f2
      go_wp2_with fail
      refine q.lf (is41 · 0 (by decide) _) ?_
      clear q F
      intro w11 q
      have F:=q.f2
      go_wp2_with fail
      refine q.lf (is41 · 0 (by decide) _) ?_
      clear q F
      intro w12 q
      have F:=q.f2
      go_wp2_with fail
      refine q.lf (is41 · 0 (by decide) _) ?_
      clear q F
      intro w13 q
      have F:=q.f2
      go_wp2_with fail
      go_light
      exact(q.lk 40 (t.pos i) 0 0 ⟨#[]⟩ hposI (hG:=fun _=>Gr.of_gives ⟨by simp,fun x hx=>by cases hx⟩)).rt Tryz.results210 1 (by unfold gWorded;exact evt)
    ·go_wp2_with fail
     refine((q.p00 40).goI (j':=i+1) hlt (Nat.lt_succ_self _)).lf (is41 · 0 (by decide) _) ?_
     clear q F r1 fr1 lr
     intro w14 q
     have F:=q.f2
     go_wp2_with fail
     refine q.lf (is41 · 0 (by decide) _) ?_
     clear q F
     intro w15 q
     have F:=q.f2
     go_wp2_with fail
     refine q.lf (is41 · 0 (by decide) _) ?_
     clear q F
     intro w16 q
     have F:=q.f2
     go_wp2_with fail
     refine q.lf (is41 · 0 (by decide) _) ?_
     clear q F
     intro w17 q
     have F:=q.f2
     go_wp2_with fail
     go_light
     exact(q.lk 40 (t.pos i) 0 0 ⟨#[]⟩ hposI (hG:=fun _=>Gr.of_gives ⟨by simp,fun x hx=>by cases hx⟩)).rt Tryz.results210 1 (by unfold gWorded;exact evt)
   ·go_wp2_with fail
    refine((q.p00 40).goI (j':=i+1) hlt (Nat.lt_succ_self _)).lf (is41 · 0 (by decide) _) ?_
    clear q F r1 fr1 lr
    intro w18 q
    have F:=q.f2
    go_wp2_with fail
    refine q.lf (is41 · 0 (by decide) _) ?_
    clear q F
    intro w19 q
    have F:=q.f2
    go_wp2_with fail
    refine q.lf (is41 · 0 (by decide) _) ?_
    clear q F
    intro w20 q
    have F:=q.f2
    go_wp2_with fail
    go_light
    exact(q.lk 40 (t.pos i) 0 0 ⟨#[]⟩ hposI (hG:=fun _=>Gr.of_gives ⟨by simp,fun x hx=>by cases hx⟩)).rt Tryz.results210 1 (by unfold gWorded;exact evt)
  ·go_wp2_with fail
   refine((q.p00 40).goI (j':=i+1) hlt (Nat.lt_succ_self _)).lf (is41 · 0 (by decide) _) ?_
   clear q F r1 fr1 lr
   intro w21 q
   have F:=q.f2
   go_wp2_with fail
   refine q.lf (is41 · 0 (by decide) _) ?_
   clear q F
   intro w22 q
   have F:=q.f2
   go_wp2_with fail
   go_light
   exact(q.lk 40 (t.pos i) 0 0 ⟨#[]⟩ hposI (hG:=fun _=>Gr.of_gives ⟨by simp,fun x hx=>by cases hx⟩)).rt Tryz.results210 1 (by unfold gWorded;exact evt)
 ·go_wp2_with fail
  refine((q.p00 40).goI (j':=i+1) hlt (Nat.lt_succ_self _)).lf (is41 · 0 (by decide) _) ?_
  clear q F r1 fr1 lr
  intro w23 q
  have F:=q.f2
  go_wp2_with fail
  go_light
  exact(q.lk 40 (t.pos i) 0 0 ⟨#[]⟩ hposI (hG:=fun _=>Gr.of_gives ⟨by simp,fun x hx=>by cases hx⟩)).rt Tryz.results210 1 (by unfold gWorded;exact evt)
end Go.Proofs.YtdplogkmkgekdaaGreatDoor
namespace Go.Proofs.YtdplogkmkgekdaaGreatDoor
open Go.RowKit
theorem wordedF_6 {N:Nat} (hI:exKF 224 8 N (fun t n=>gG t n 4)) {w:World} {rb tb cap i:Nat} {t:Tk} {k a:Int} (hkw:t.kind i=3) (h:Rd w rb tb cap t i k a) (hk:k=0) (hN:Bd (N+1) t i k 9) (t0:((t.text i).toList==[116,114,117,101])=false) (t1:((t.text i).toList==[102,97,108,115,101])=false) (t2:((t.text i).toList==[98,114,101,97,107])=false) (t3:((t.text i).toList==[110,101,120,116])=false) (t4:((t.text i).toList==[112,97,110,105,99])=false) (t5:((t.text i).toList==[114,101,116,117,114,110])=false) (t6:((t.text i).toList==[105,102])=true):Calls Tryz.prog 210 #[.pointer (some ⟨rb,0,none⟩)] w (NodeF 1 w rb tb cap t i k a True 8 noK (fun n=>gWorded t (gG t n 0) (gG t n 1) (gG t n 3) (gG t n 5) (gG t n 4) n)):=by
 have HK:Hid (k=0):=hk
 clear hk
 have hl:=h.l
 have HN:Hid (Bd (N+1) t i k 9):=hN
 clear hN
 have HB:Hid (∀i' k' r',(k'=0→i<i')→r'<64→Bd N t i' k' r'):=HN.out.any2 HK.out h.lt
 have hposI:(0:Int)≤(t.pos i:Int)∧(t.pos i:Int)≤7000:=by have:=h.good.posb i;omega
 go_enter Tryz.func210,Tryz.ntmps210
 have hi:(i:Int)<(t.len:Int):=by have:=h.lt;omega
 have hfew:(t.len:Int)≤6001:=by have:=h.good.few;omega
 have hlt:i+1<t.len:=kind_lt h.good h.lt (by omega)
 have hfd:=fld103_2
 have q:=Mf.start (wt:=1) h
 go_wp2_with fail
 refine(q.ne' (sz w) (zeroC)).lf (node20 · 0) ?_
 clear q
 intro w1 q
 have F:=q.f1
 go_wp2_with fail
 refine(q.ne' (sz w1) (nk 0 (t.pos i) nl)).lf tok38 ?_
 clear q F
 intro w2 q
 have F:=q.f2
 go_wp2_with fail
 refine q.nd (hI.at0 HK.out · (HN.out.down q.le q.ok (by decide))) ?_
 clear q F
 intro w3 x3 i3 k3 a3 y3 hc3 ok3 m3 q
 have F:=q.f2
 go_wp2_with fail
 go_light
 exact q.rt Tryz.results210 1 (by unfold gWorded;exact evt) (hC:=hc3)
theorem wordedF_7 {N:Nat} (hM:exKF 225 8 N (fun t n=>gMatch t (gG t n 1) (gG t n 5) n)) {w:World} {rb tb cap i:Nat} {t:Tk} {k a:Int} (hkw:t.kind i=3) (h:Rd w rb tb cap t i k a) (hk:k=0) (hN:Bd (N+1) t i k 9) (t0:((t.text i).toList==[116,114,117,101])=false) (t1:((t.text i).toList==[102,97,108,115,101])=false) (t2:((t.text i).toList==[98,114,101,97,107])=false) (t3:((t.text i).toList==[110,101,120,116])=false) (t4:((t.text i).toList==[112,97,110,105,99])=false) (t5:((t.text i).toList==[114,101,116,117,114,110])=false) (t6:((t.text i).toList==[105,102])=false) (t7:((t.text i).toList==[109,97,116,99,104])=true):Calls Tryz.prog 210 #[.pointer (some ⟨rb,0,none⟩)] w (NodeF 1 w rb tb cap t i k a True 8 noK (fun n=>gWorded t (gG t n 0) (gG t n 1) (gG t n 3) (gG t n 5) (gG t n 4) n)):=by
 have HK:Hid (k=0):=hk
 clear hk
 have hl:=h.l
 have HN:Hid (Bd (N+1) t i k 9):=hN
 clear hN
 have HB:Hid (∀i' k' r',(k'=0→i<i')→r'<64→Bd N t i' k' r'):=HN.out.any2 HK.out h.lt
 have hposI:(0:Int)≤(t.pos i:Int)∧(t.pos i:Int)≤7000:=by have:=h.good.posb i;omega
 go_enter Tryz.func210,Tryz.ntmps210
 have hi:(i:Int)<(t.len:Int):=by have:=h.lt;omega
 have hfew:(t.len:Int)≤6001:=by have:=h.good.few;omega
 have hlt:i+1<t.len:=kind_lt h.good h.lt (by omega)
 have hfd:=fld103_2
 have q:=Mf.start (wt:=1) h
 go_wp2_with fail
 refine(q.ne' (sz w) (zeroC)).lf (node20 · 0) ?_
 clear q
 intro w1 q
 have F:=q.f1
 go_wp2_with fail
 refine(q.ne' (sz w1) (nk 0 (t.pos i) nl)).lf tok38 ?_
 clear q F
 intro w2 q
 have F:=q.f2
 go_wp2_with fail
 refine q.nd (hM.at0 HK.out · (HN.out.down q.le q.ok (by decide))) ?_
 clear q F
 intro w3 x3 i3 k3 a3 y3 hc3 ok3 m3 q
 have F:=q.f2
 go_wp2_with fail
 go_light
 exact q.rt Tryz.results210 1 (by unfold gWorded;exact evt) (hC:=hc3)
theorem wordedF_10 {N:Nat} (hMk:exKF 226 8 N (fun t n=>gMake t (gG t n 0) (gG t n 1) n)) {w:World} {rb tb cap i:Nat} {t:Tk} {k a:Int} (hkw:t.kind i=3) (h:Rd w rb tb cap t i k a) (hk:k=0) (hN:Bd (N+1) t i k 9) (t0:((t.text i).toList==[116,114,117,101])=false) (t1:((t.text i).toList==[102,97,108,115,101])=false) (t2:((t.text i).toList==[98,114,101,97,107])=false) (t3:((t.text i).toList==[110,101,120,116])=false) (t4:((t.text i).toList==[112,97,110,105,99])=false) (t5:((t.text i).toList==[114,101,116,117,114,110])=false) (t6:((t.text i).toList==[105,102])=false) (t7:((t.text i).toList==[109,97,116,99,104])=false) (t8:((t.text i).toList==[119,104,105,108,101])=false) (t9:((t.text i).toList==[108,111,111,112])=false) (t10:((t.text i).toList==[109,97,107,101])=true):Calls Tryz.prog 210 #[.pointer (some ⟨rb,0,none⟩)] w (NodeF 1 w rb tb cap t i k a True 8 noK (fun n=>gWorded t (gG t n 0) (gG t n 1) (gG t n 3) (gG t n 5) (gG t n 4) n)):=by
 have HK:Hid (k=0):=hk
 clear hk
 have hl:=h.l
 have HN:Hid (Bd (N+1) t i k 9):=hN
 clear hN
 have HB:Hid (∀i' k' r',(k'=0→i<i')→r'<64→Bd N t i' k' r'):=HN.out.any2 HK.out h.lt
 have hposI:(0:Int)≤(t.pos i:Int)∧(t.pos i:Int)≤7000:=by have:=h.good.posb i;omega
 go_enter Tryz.func210,Tryz.ntmps210
 have hi:(i:Int)<(t.len:Int):=by have:=h.lt;omega
 have hfew:(t.len:Int)≤6001:=by have:=h.good.few;omega
 have hlt:i+1<t.len:=kind_lt h.good h.lt (by omega)
 have hfd:=fld103_2
 have q:=Mf.start (wt:=1) h
 go_wp2_with fail
 refine(q.ne' (sz w) (zeroC)).lf (node20 · 0) ?_
 clear q
 intro w1 q
 have F:=q.f1
 go_wp2_with fail
 refine(q.ne' (sz w1) (nk 0 (t.pos i) nl)).lf tok38 ?_
 clear q F
 intro w2 q
 have F:=q.f2
 go_wp2_with fail
 refine q.nd (hMk.at0 HK.out · (HN.out.down q.le q.ok (by decide))) ?_
 clear q F
 intro w3 x3 i3 k3 a3 y3 hc3 ok3 m3 q
 have F:=q.f2
 go_wp2_with fail
 go_light
 exact q.rt Tryz.results210 1 (by unfold gWorded;exact evt) (hC:=hc3)
theorem wordedF_11 {N:Nat} (hC:exKF 227 8 N (fun t n=>gClosure t (gG t n 0) (gG t n 3) n)) {w:World} {rb tb cap i:Nat} {t:Tk} {k a:Int} (hkw:t.kind i=3) (h:Rd w rb tb cap t i k a) (hk:k=0) (hN:Bd (N+1) t i k 9) (t0:((t.text i).toList==[116,114,117,101])=false) (t1:((t.text i).toList==[102,97,108,115,101])=false) (t2:((t.text i).toList==[98,114,101,97,107])=false) (t3:((t.text i).toList==[110,101,120,116])=false) (t4:((t.text i).toList==[112,97,110,105,99])=false) (t5:((t.text i).toList==[114,101,116,117,114,110])=false) (t6:((t.text i).toList==[105,102])=false) (t7:((t.text i).toList==[109,97,116,99,104])=false) (t8:((t.text i).toList==[119,104,105,108,101])=false) (t9:((t.text i).toList==[108,111,111,112])=false) (t10:((t.text i).toList==[109,97,107,101])=false) (t11:((t.text i).toList==[102,110])=true):Calls Tryz.prog 210 #[.pointer (some ⟨rb,0,none⟩)] w (NodeF 1 w rb tb cap t i k a True 8 noK (fun n=>gWorded t (gG t n 0) (gG t n 1) (gG t n 3) (gG t n 5) (gG t n 4) n)):=by
 have HK:Hid (k=0):=hk
 clear hk
 have hl:=h.l
 have HN:Hid (Bd (N+1) t i k 9):=hN
 clear hN
 have HB:Hid (∀i' k' r',(k'=0→i<i')→r'<64→Bd N t i' k' r'):=HN.out.any2 HK.out h.lt
 have hposI:(0:Int)≤(t.pos i:Int)∧(t.pos i:Int)≤7000:=by have:=h.good.posb i;omega
 go_enter Tryz.func210,Tryz.ntmps210
 have hi:(i:Int)<(t.len:Int):=by have:=h.lt;omega
 have hfew:(t.len:Int)≤6001:=by have:=h.good.few;omega
 have hlt:i+1<t.len:=kind_lt h.good h.lt (by omega)
 have hfd:=fld103_2
 have q:=Mf.start (wt:=1) h
 go_wp2_with fail
 refine(q.ne' (sz w) (zeroC)).lf (node20 · 0) ?_
 clear q
 intro w1 q
 have F:=q.f1
 go_wp2_with fail
 refine(q.ne' (sz w1) (nk 0 (t.pos i) nl)).lf tok38 ?_
 clear q F
 intro w2 q
 have F:=q.f2
 go_wp2_with fail
 refine q.nd (hC.at0 HK.out · (HN.out.down q.le q.ok (by decide))) ?_
 clear q F
 intro w3 x3 i3 k3 a3 y3 hc3 ok3 m3 q
 have F:=q.f2
 go_wp2_with fail
 go_light
 exact q.rt Tryz.results210 1 (by unfold gWorded;exact evt) (hC:=hc3)
end Go.Proofs.YtdplogkmkgekdaaGreatDoor
