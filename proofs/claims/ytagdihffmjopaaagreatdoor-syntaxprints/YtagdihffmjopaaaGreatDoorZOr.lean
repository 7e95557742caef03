/- Two with a sign between, counted. -/
import Derived.Test.YtagdihffmjopaaaGreatDoorMzg
import Derived.Test.YtagdihffmjopaaaGreatDoorZTypfn
import Derived.Test.YtagdihffmjopaaaGreatDoorApp
import Derived.Test.YtagdihffmjopaaaGreatDoorMze
import Derived.Test.YtagdihffmjopaaaGreatDoorTwo
namespace Go.Proofs.YtagdihffmjopaaaGreatDoor
set_option linter.all false
open Go.RowKit
set_option maxRecDepth 100000 in
set_option maxHeartbeats 1000000 in
theorem typZ_fnL {N:Nat} (hTs:tysQ 3 N) (hT:tyQ 3 N) (hLi:noQ 3 102 True 8 fun x=>x=19) {w:World} {rb tb cap i:Nat} {t:Tk} {k a:Int} (h:Rd w rb tb cap t i k a) (hN:Bd (N+1) t i k 3) (h1:isB t i k 0 ⟨#[105,110,116]⟩=false) (h2:isB t i k 0 ⟨#[98,111,111,108]⟩=false) (h3:isB t i k 0 ⟨#[40]⟩=false) (h4:isB t i k 0 ⟨#[38]⟩=false) (h5:isB t i k 0 ⟨#[38,38]⟩=false) (h6:isB t i k 0 ⟨#[102,110]⟩=true) (h7:kindB t (i+1) k 0 4=true):Calls Tryz.prog 79 #[.pointer (some ⟨rb,0,none⟩)] w (NodeZ 3 w rb tb cap t i k True 8 tyK):=by
 have hl:=h.l
 have HN:Hid (Bd (N+1) t i k 3):=hN
 clear hN
 have hposI:(0:Int)≤(t.pos i:Int)∧(t.pos i:Int)≤7000:=by have:=h.good.posb i;omega
 go_enter Tryz.func79,Tryz.ntmps79
 have hfd4:=fld46_4
 have hi:(i:Int)<(t.len:Int):=by have:=h.lt;omega
 have hfew:(t.len:Int)≤6001:=by have:=h.good.few;omega
 have q:=Mz.start (wt:=3) h
 go_wp2_with fail
 refine(q.ne' (sz w) (zeroC)).lf (node20 · 0) ?_
 clear q
 intro w1 q
 have F:=q.f1
 go_wp2_with fail
 refine(q.ne' (sz w1) (nk 0 (t.pos i) nl)).lf (eat_no · _ h1) ?_
 clear q F
 intro w2 q
 have F:=q.f2
 go_wp2_with fail
 refine q.lf (eat_no · _ h2) ?_
 clear q F
 intro w3 q
 have F:=q.f2
 go_wp2_with fail
 refine q.lf (eat_no · _ h3) ?_
 clear q F
 intro w4 q
 have F:=q.f2
 go_wp2_with fail
 refine q.lf (is41 · 0 (by decide) _) ?_
 clear q F
 intro w5 q
 have F:=q.f2
 go_wp2_with fail
 refine q.lf (is41 · 0 (by decide) _) ?_
 clear q F
 intro w6 q
 have F:=q.f2
 go_wp2_with fail
 refine q.ey (eat_yes · _ h6) ?_
 clear q F
 intro w7 q
 have F:=q.f2
 go_wp2_with fail
 refine(q.p00 17).lf (kind22 · 0 (by decide) 4) ?_
 clear q F
 intro w8 q
 have F:=q.f2
 have HB:Hid (∀i' k' r',(k'=0→i<i')→r'<64→Bd N t i' k' r'):=HN.out.any2 (isB_lt h.good h.lt h6).1 h.lt
 go_wp2_with fail
 refine(hLi q.st.rd).mono ?_
 rintro e w9 ⟨q9,p9,n9,m9,s9,ko9,kl9,kc9,i9,k9,a9,rfl,hx9,hn9,hc9,hz9⟩
 have hnm9:=hn9.name
 have ok9:Hid (k9=0→k=0):=hx9.ok
 replace q:=q.nxm hx9
 clear hx9 hn9 hc9 hz9
 replace F:=q.f2
 go_wp2_with fail
 refine(q.p04 s9).et (eat42 · _) ?_
 clear q F
 intro w10 b10 i10 hE10 q
 have F:=q.f2
 go_upto_if 47 with fail
 go_cut [] (fun wx=>∃(NN:Int) (j11:Nat) (k11 a11:Int),Mz 3 w rb tb cap t i k True (-32) wx j11 k11 a11 [(sz w1,nodeC 17 (t.pos i) NN 0 s9 nl),(sz w,zeroC)] [] nl [])
 case first=>
  go_wp2_with fail
  ·go_wp2_with fail
   go_meet
   exact⟨1,i10,k9,a9,((q.p02 1).less (by omega))⟩
  ·go_wp2_with fail
   refine q.et (eat42 · _) ?_
   clear q F
   intro w12 b12 i12 hE12 q
   have F:=q.f2
   go_wp2_with fail
   ·go_wp2_with fail
    go_meet
    exact⟨2,i12,k9,a9,((q.p02 2).less (by omega))⟩
   ·go_wp2_with fail
    go_meet
    exact⟨0,i12,k9,a9,(q.less (by omega))⟩
 case rest=>
  clear F q
  obtain⟨NN,j11,k11,a11,q⟩:=hcut
  obtain⟨w13,hw⟩:∃x,x=wc:=⟨_,rfl⟩
  subst hw
  have F:=q.f2
  go_wp2_with fail
  refine q.wn (want39 · _) ?_
  clear q F
  intro w14 i14 k14 a14 ok14 q
  have F:=q.f2
  go_wp2_with fail
  refine q.li (hTs · (q.bd HB.out (by decide)) _) ?_
  clear q F
  intro w15 ao15 cp15 vs15 i15 k15 a15 hl15 hP15 ok15 q
  have F:=q.f2
  go_wp2_with fail
  refine(q.p05 (.slice ao15 vs15.length cp15)).wn (want39 · _) ?_
  clear q F
  intro w16 i16 k16 a16 ok16 q
  have F:=q.f2
  go_wp2_with fail
  go_region_law (first|(refine q.as (sz w17) (Nat.le_trans hl15 (by decide)) ?_;clear q F;intro w18 ao18 cp18 q;have F:=q.f2)|(replace q:=q.drew;go_simp;refine q.nd (hT · (q.bd HB.out (by decide))) ?_;clear q F;intro w17 x17 i17 k17 a17 hc17 ok17 q;have F:=q.f2))
  all_goals
   go_wp2_with fail
   go_light
   exact Mz.retb (C:=tyK) (d:=8) Tryz.results79 rfl rfl ((q.p05 (.slice ao18 (vs15.length+1) cp18)).fo 17 (t.pos i) NN 0 s9 (by have:=hl15;simp;omega) hposI hnm9 (fun e=>Gr.of_fnt ⟨by simp,by rw[List.map_append];exact all_snoc (hP15 (ok16.out (ok17.out e))) (hc17 e)⟩)) 1 rfl (fun _=>⟨by show(13:Int)≤17;decide,by show(17:Int)≤18;decide⟩) (by omega) rfl
end Go.Proofs.YtagdihffmjopaaaGreatDoor
namespace Go.Proofs.YtagdihffmjopaaaGreatDoor
set_option linter.all false
open Go.RowKit
set_option maxRecDepth 100000 in
set_option maxHeartbeats 1000000 in
theorem typZ_path {N:Nat} (hA:argsQ 3 N) {w:World} {rb tb cap i:Nat} {t:Tk} {k a:Int} (h:Rd w rb tb cap t i k a) (hN:Bd (N+1) t i k 3) (h1:isB t i k 0 ⟨#[105,110,116]⟩=false) (h2:isB t i k 0 ⟨#[98,111,111,108]⟩=false) (h3:isB t i k 0 ⟨#[40]⟩=false) (h4:isB t i k 0 ⟨#[38]⟩=false) (h5:isB t i k 0 ⟨#[38,38]⟩=false) (h6:isB t i k 0 ⟨#[102,110]⟩=false):Calls Tryz.prog 79 #[.pointer (some ⟨rb,0,none⟩)] w (NodeZ 3 w rb tb cap t i k True 8 tyK):=by
 have hl:=h.l
 have HN:Hid (Bd (N+1) t i k 3):=hN
 clear hN
 have hposI:(0:Int)≤(t.pos i:Int)∧(t.pos i:Int)≤7000:=by have:=h.good.posb i;omega
 go_enter Tryz.func79,Tryz.ntmps79
 have hfd4:=fld46_4
 have hi:(i:Int)<(t.len:Int):=by have:=h.lt;omega
 have hfew:(t.len:Int)≤6001:=by have:=h.good.few;omega
 have q:=Mz.start (wt:=3) h
 go_wp2_with fail
 refine(q.ne' (sz w) (zeroC)).lf (node20 · 0) ?_
 clear q
 intro w1 q
 have F:=q.f1
 go_wp2_with fail
 refine(q.ne' (sz w1) (nk 0 (t.pos i) nl)).lf (eat_no · _ h1) ?_
 clear q F
 intro w2 q
 have F:=q.f2
 go_wp2_with fail
 refine q.lf (eat_no · _ h2) ?_
 clear q F
 intro w3 q
 have F:=q.f2
 go_wp2_with fail
 refine q.lf (eat_no · _ h3) ?_
 clear q F
 intro w4 q
 have F:=q.f2
 go_wp2_with fail
 refine q.lf (is41 · 0 (by decide) _) ?_
 clear q F
 intro w5 q
 have F:=q.f2
 go_wp2_with fail
 refine q.lf (is41 · 0 (by decide) _) ?_
 clear q F
 intro w6 q
 have F:=q.f2
 go_wp2_with fail
 refine q.lf (eat_no · _ h6) ?_
 clear q F
 intro w7 q
 have F:=q.f2
 go_wp2_with fail
 refine(q.p00 18).nm (path80 · 2 (by decide) (by decide)) ?_
 clear q F
 intro w8 s8 i8 k8 a8 hs8 ho8 ok8 q
 have F:=q.f2
 go_wp2_with fail
 refine(q.p04 s8).et (eat42 · _) ?_
 clear q F
 intro w9 b9 i9 hE9 q
 have F:=q.f2
 go_wp2_with fail
 ·have HB:Hid (∀i' k' r',(k'=0→i<i')→r'<64→Bd N t i' k' r'):=HN.out.any2 (q.ok (hE9.yes ‹_›).2) h.lt
  go_wp2_with fail
  refine q.li (hA · (q.bd HB.out (by decide))) ?_
  clear q F
  intro w10 ao10 cp10 vs10 i10 k10 a10 hl10 hP10 ok10 q
  have F:=q.f2
  go_wp2_with fail
  go_light
  exact Mz.retb (C:=tyK) (d:=8) Tryz.results79 rfl rfl ((q.p05 (.slice ao10 vs10.length cp10)).fo 18 (t.pos i) 0 0 s8 (Nat.le_trans hl10 (by decide)) hposI hs8 (fun e=>Gr.of_path ⟨ho8 (ok10.out e),hP10 e⟩)) 1 rfl (fun _=>⟨by show(13:Int)≤18;decide,by show(18:Int)≤18;decide⟩) (by omega) rfl
 ·go_wp2_with fail
  go_light
  exact Mz.retb (C:=tyK) (d:=8) Tryz.results79 rfl rfl (q.lk 18 (t.pos i) 0 0 s8 hposI hs8 (fun e=>Gr.of_path ⟨ho8 e,[],[],rfl,(fun _ hx=>by cases hx),(fun _ hx=>by cases hx)⟩)) 1 rfl (fun _=>⟨by show(13:Int)≤18;decide,by show(18:Int)≤18;decide⟩) (by omega) rfl
end Go.Proofs.YtagdihffmjopaaaGreatDoor
namespace Go.Proofs.YtagdihffmjopaaaGreatDoor
set_option linter.all false
open Go.RowKit
set_option maxRecDepth 100000 in
set_option maxHeartbeats 1000000 in
theorem argsZ {N:Nat} (hT:tyQ 3 N) (hLi:noQ 3 102 True 8 fun x=>x=19):argsQ 3 (N+1):=by
 intro w rb tb cap i t k a h hN
 have hl:=h.l
 have HN:Hid (Bd (N+1) t i k 4):=hN
 clear hN
 go_enter Tryz.func105,Tryz.ntmps105
 have q:=Mz.start (wt:=3) h
 go_wp2_with fail
 go_loopg [3] (ml t i k) (fun g v wr=>∃(vs:List (List Value)) (j:Nat) (kj aj:Int),g=ml t j kj∧Few 0 vs j kj∧(kj=0→(fun ks=>∀x∈ks,x=19) (vs.map labOf))∧Mz 3 w rb tb cap t i k False (0) wr j kj aj [] [] v vs)
 case atStart=>exact⟨[],i,k,a,rfl,⟨fun _=>by simp,by simp⟩,(fun e=>(fun x hx=>by cases hx)),(q.up (fun x=>x.elim)).less (by omega)⟩
 case round=>
  clear q
  obtain⟨vs,j,kj,aj,hgk,hF,hC0,q⟩:=hrel
  have HC:Hid (kj=0→(fun ks=>∀x∈ks,x=19) (vs.map labOf)):=hC0
  clear hC0
  have hj:=q.st.rd.lt
  have hposJ:(0:Int)≤(t.pos j:Int)∧(t.pos j:Int)≤7000:=by have:=h.good.posb j;omega
  have HG:Hid (gk=ml t j kj):=hgk
  clear hgk
  obtain⟨ao1,cp1,rfl⟩:=q.shape
  cases hk0:(kj==0)
  ·go_wp2_with fail
   refine q.lf ok21b ?_
   clear q
   intro w2 q
   go_wp2_with fail
   clear HG hk0 hj hposJ
   go_loopg [3] (ml t j kj) (fun g v wr=>∃(vs:List (List Value)) (j:Nat) (kj aj:Int),g=ml t j kj∧Few 0 vs j kj∧(kj=0→argK (vs.map labOf))∧Mz 3 w rb tb cap t i k False (0) wr j kj aj [] [] v vs)
   case atStart=>exact⟨vs,j,kj,aj,rfl,hF,(fun e=>argK_life (HC.out e)),(q.up (fun x=>x.elim)).less (by omega)⟩
   case round=>
    clear q
    obtain⟨vs,j,kj,aj,hgk,hF,hC0,q⟩:=hrel
    have HC:Hid (kj=0→argK (vs.map labOf)):=hC0
    clear hC0
    have hj:=q.st.rd.lt
    have hposJ:(0:Int)≤(t.pos j:Int)∧(t.pos j:Int)≤7000:=by have:=h.good.posb j;omega
    have HG:Hid (gk=ml t j kj):=hgk
    clear hgk
    obtain⟨ao3,cp3,rfl⟩:=q.shape
    cases hk0:(kj==0)
    ·go_wp2_with fail
     refine q.lf ok21b ?_
     clear q
     intro w4 q
     go_wp2_with fail
     go_ret
     exact Mz.post (d:=0) (q.up (g':=True) (fun _ e=>absurd e (by simpa using hk0))) (fun _=>trivial) hF.2 (fun e=>absurd e (by simpa using hk0)) (by omega)
    ·obtain rfl:kj=0:=by simpa using hk0
     have hb1:Hid (i≤j∧k=0):=⟨q.le,q.ok rfl⟩
     replace HC:Hid (argK (vs.map labOf)):=HC.out rfl
     have HJ:Hid (∀i' k',j≤i'→Bd N t i' k' 3):=fun i' k' h1=>HN.out.down (Nat.le_trans q.le h1) (fun _=>q.ok rfl) (by decide)
     have hFl:vs.length≤6001:=by have:=hF.1 rfl;have:=h.good.few;omega
     replace q:Mz 3 w rb tb cap t j 0 False (16*((j:Int) - (i:Int))+(0)) wr j 0 aj [] [] (.slice ao3 vs.length cp3) vs:=q.rebase.less (by omega)
     go_wp2_with fail
     refine q.lf ok21b ?_
     clear q
     intro w5 q
     go_wp2_with fail
     refine q.nd (hT · (HJ.out _ _ q.le)) ?_
     clear q
     intro w6 x6 i6 k6 a6 hc6 ok6 q
     go_wp2_with (at_builtin;refine q.ap (sz w6) (Nat.le_trans hFl (by decide)) ?_;clear q;intro w7 ao7 cp7 q)
     go_wp2_with fail
     refine q.et (eat42 · _) ?_
     clear q
     intro w8 b8 i8 hE8 q
     go_wp2_with fail
     ·go_wp2_with fail
      go_ret
      exact Mz.post (d:=0) ((q.unbase (i':=i) (k':=k) (g':=False) (s':= -8) hb1.out.1 (fun _=>hb1.out.2) (fun x=>x.elim) (by omega)).up (g':=True) (fun _ e=>Nat.lt_of_le_of_lt hb1.out.1 (q.go trivial e))) (fun _=>trivial) (by have h1:=hF.1 rfl;have h2:=h.good.few;simp only[List.length_append,List.length_cons,List.length_nil];omega) (fun e=>by rw[List.map_append];exact argK_ty HC.out (hc6 e)) (by omega)
     ·go_wp2_with fail
      refine q.wn (want39 · _) ?_
      clear q
      intro w9 i9 k9 a9 ok9 q
      go_wp2_with fail
      go_roundg (ml t i9 k9)
      case measure=>rw[HG.out];exact ml_lt hj q.le (q.go trivial)
      case rel=>exact⟨(vs++[x6.t]),i9,k9,a9,rfl,Few.snoc (t:=t) hF rfl hj h.good (q.go trivial),(fun e=>by rw[List.map_append];exact argK_ty HC.out (hc6 (ok9.out e))),q.unbase (s':=0) hb1.out.1 (fun _=>hb1.out.2) (fun x=>x.elim) (by omega)⟩
  ·obtain rfl:kj=0:=by simpa using hk0
   have hb1:Hid (i≤j∧k=0):=⟨q.le,q.ok rfl⟩
   replace HC:Hid ((fun ks=>∀x∈ks,x=19) (vs.map labOf)):=HC.out rfl
   have HJ:Hid (∀i' k',j≤i'→Bd N t i' k' 3):=fun i' k' h1=>HN.out.down (Nat.le_trans q.le h1) (fun _=>q.ok rfl) (by decide)
   have hFl:vs.length≤6001:=by have:=hF.1 rfl;have:=h.good.few;omega
   replace q:Mz 3 w rb tb cap t j 0 False (16*((j:Int) - (i:Int))+(0)) wr j 0 aj [] [] (.slice ao1 vs.length cp1) vs:=q.rebase.less (by omega)
   go_wp2_with fail
   refine q.lf ok21b ?_
   clear q
   intro w10 q
   cases hq:kindB t j 0 0 4
   ·go_wp2_with fail
    refine q.lf (kind22 · 0 (by decide) 4) ?_
    clear q
    intro w11 q
    replace q:Mz 3 w rb tb cap t i k False (0) w11 j 0 aj [] [] (.slice ao1 vs.length cp1) vs:=q.unbase (i':=i) (k':=k) (g':=False) (s':=0) hb1.out.1 (fun _=>hb1.out.2) (fun x=>x.elim) (by omega)
    go_wp2_with fail
    clear HG hk0 hj hq hposJ HJ hFl hb1
    go_loopg [3] (ml t j 0) (fun g v wr=>∃(vs:List (List Value)) (j:Nat) (kj aj:Int),g=ml t j kj∧Few 0 vs j kj∧(kj=0→argK (vs.map labOf))∧Mz 3 w rb tb cap t i k False (0) wr j kj aj [] [] v vs)
    case atStart=>exact⟨vs,j,0,aj,rfl,hF,(fun e=>argK_life HC.out),(q.up (fun x=>x.elim)).less (by omega)⟩
    case round=>
     clear q
     obtain⟨vs,j,kj,aj,hgk,hF,hC0,q⟩:=hrel
     have HC:Hid (kj=0→argK (vs.map labOf)):=hC0
     clear hC0
     have hj:=q.st.rd.lt
     have hposJ:(0:Int)≤(t.pos j:Int)∧(t.pos j:Int)≤7000:=by have:=h.good.posb j;omega
     have HG:Hid (gk=ml t j kj):=hgk
     clear hgk
     obtain⟨ao12,cp12,rfl⟩:=q.shape
     cases hk0:(kj==0)
     ·go_wp2_with fail
      refine q.lf ok21b ?_
      clear q
      intro w13 q
      go_wp2_with fail
      go_ret
      exact Mz.post (d:=0) (q.up (g':=True) (fun _ e=>absurd e (by simpa using hk0))) (fun _=>trivial) hF.2 (fun e=>absurd e (by simpa using hk0)) (by omega)
     ·obtain rfl:kj=0:=by simpa using hk0
      have hb1:Hid (i≤j∧k=0):=⟨q.le,q.ok rfl⟩
      replace HC:Hid (argK (vs.map labOf)):=HC.out rfl
      have HJ:Hid (∀i' k',j≤i'→Bd N t i' k' 3):=fun i' k' h1=>HN.out.down (Nat.le_trans q.le h1) (fun _=>q.ok rfl) (by decide)
      have hFl:vs.length≤6001:=by have:=hF.1 rfl;have:=h.good.few;omega
      replace q:Mz 3 w rb tb cap t j 0 False (16*((j:Int) - (i:Int))+(0)) wr j 0 aj [] [] (.slice ao12 vs.length cp12) vs:=q.rebase.less (by omega)
      go_wp2_with fail
      refine q.lf ok21b ?_
      clear q
      intro w14 q
      go_wp2_with fail
      refine q.nd (hT · (HJ.out _ _ q.le)) ?_
      clear q
      intro w15 x15 i15 k15 a15 hc15 ok15 q
      go_wp2_with (at_builtin;refine q.ap (sz w15) (Nat.le_trans hFl (by decide)) ?_;clear q;intro w16 ao16 cp16 q)
      go_wp2_with fail
      refine q.et (eat42 · _) ?_
      clear q
      intro w17 b17 i17 hE17 q
      go_wp2_with fail
      ·go_wp2_with fail
       go_ret
       exact Mz.post (d:=0) ((q.unbase (i':=i) (k':=k) (g':=False) (s':= -8) hb1.out.1 (fun _=>hb1.out.2) (fun x=>x.elim) (by omega)).up (g':=True) (fun _ e=>Nat.lt_of_le_of_lt hb1.out.1 (q.go trivial e))) (fun _=>trivial) (by have h1:=hF.1 rfl;have h2:=h.good.few;simp only[List.length_append,List.length_cons,List.length_nil];omega) (fun e=>by rw[List.map_append];exact argK_ty HC.out (hc15 e)) (by omega)
      ·go_wp2_with fail
       refine q.wn (want39 · _) ?_
       clear q
       intro w18 i18 k18 a18 ok18 q
       go_wp2_with fail
       go_roundg (ml t i18 k18)
       case measure=>rw[HG.out];exact ml_lt hj q.le (q.go trivial)
       case rel=>exact⟨(vs++[x15.t]),i18,k18,a18,rfl,Few.snoc (t:=t) hF rfl hj h.good (q.go trivial),(fun e=>by rw[List.map_append];exact argK_ty HC.out (hc15 (ok18.out e))),q.unbase (s':=0) hb1.out.1 (fun _=>hb1.out.2) (fun x=>x.elim) (by omega)⟩
   ·go_wp2_with fail
    refine q.lf (kind22 · 0 (by decide) 4) ?_
    clear q
    intro w19 q
    go_wp2_with fail
    refine q.nd hLi ?_
    clear q
    intro w20 x20 i20 k20 a20 hc20 ok20 q
    go_wp2_with (at_builtin;refine q.ap (sz w20) (Nat.le_trans hFl (by decide)) ?_;clear q;intro w21 ao21 cp21 q)
    go_wp2_with fail
    refine q.et (eat42 · _) ?_
    clear q
    intro w22 b22 i22 hE22 q
    go_wp2_with fail
    ·go_wp2_with fail
     go_ret
     exact Mz.post (d:=0) ((q.unbase (i':=i) (k':=k) (g':=False) (s':= -8) hb1.out.1 (fun _=>hb1.out.2) (fun x=>x.elim) (by omega)).up (g':=True) (fun _ e=>Nat.lt_of_le_of_lt hb1.out.1 (q.go trivial e))) (fun _=>trivial) (by have h1:=hF.1 rfl;have h2:=h.good.few;simp only[List.length_append,List.length_cons,List.length_nil];omega) (fun e=>argK_life ((fun e=>by rw[List.map_append];exact all_snoc HC.out (hc20 e)) e)) (by omega)
    ·go_wp2_with fail
     refine q.wn (want39 · _) ?_
     clear q
     intro w23 i23 k23 a23 ok23 q
     go_wp2_with fail
     go_roundg (ml t i23 k23)
     case measure=>rw[HG.out];exact ml_lt hj q.le (q.go trivial)
     case rel=>exact⟨(vs++[x20.t]),i23,k23,a23,rfl,Few.snoc (t:=t) hF rfl hj h.good (q.go trivial),(fun e=>by rw[List.map_append];exact all_snoc HC.out (hc20 (ok23.out e))),q.unbase (s':=0) hb1.out.1 (fun _=>hb1.out.2) (fun x=>x.elim) (by omega)⟩
end Go.Proofs.YtagdihffmjopaaaGreatDoor
namespace Go.Proofs.YtagdihffmjopaaaGreatDoor
set_option linter.all false
open Go.RowKit
set_option maxRecDepth 100000 in
set_option maxHeartbeats 1000000 in
theorem typesZ {N:Nat} (hX:tyQ 3 N):tysQ 3 (N+1):=by
 intro w rb tb cap i t k a h hN s
 have hl:=h.l
 have HN:Hid (Bd (N+1) t i k 4):=hN
 clear hN
 go_enter Tryz.func80,Tryz.ntmps80
 have q:=Mz.start (wt:=3) h
 go_wp2_with fail
 refine q.et (eat42 · _) ?_
 clear q
 intro w1 b1 i1 hE1 q
 go_wp2_with fail
 ·go_wp2_with fail
  go_ret
  exact Mz.post (d:=0) (q.up (g':=True) (fun _ _=>by have:=(hE1.yes ‹_›).1;omega)) (fun _=>trivial) (by simp) (fun _ x hx=>by cases hx) (by omega)
 ·obtain rfl:b1=false:= ‹_›
  go_wp2_with fail
  go_loopg [5] (ml t i1 k) (fun g v wr=>∃(vs:List (List Value)) (j:Nat) (kj aj:Int),g=ml t j kj∧Few 0 vs j kj∧(kj=0→(fun ks=>∀x∈ks,tyK x) (vs.map labOf))∧Mz 3 w rb tb cap t i k False (0) wr j kj aj [] [] v vs)
  case atStart=>exact⟨[],i1,k,a,rfl,⟨fun _=>by simp,by simp⟩,(fun e=>(fun x hx=>by cases hx)),(q.up (fun x=>x.elim)).less (by omega)⟩
  case round=>
   clear q
   obtain⟨vs,j,kj,aj,hgk,hF,hC0,q⟩:=hrel
   have HC:Hid (kj=0→(fun ks=>∀x∈ks,tyK x) (vs.map labOf)):=hC0
   clear hC0
   have hj:=q.st.rd.lt
   have hposJ:(0:Int)≤(t.pos j:Int)∧(t.pos j:Int)≤7000:=by have:=h.good.posb j;omega
   have HG:Hid (gk=ml t j kj):=hgk
   clear hgk
   obtain⟨ao2,cp2,rfl⟩:=q.shape
   cases hk0:(kj==0)
   ·go_wp2_with fail
    refine q.lf ok21b ?_
    clear q
    intro w3 q
    go_wp2_with fail
    go_ret
    exact Mz.post (d:=0) (q.up (g':=True) (fun _ e=>absurd e (by simpa using hk0))) (fun _=>trivial) hF.2 (fun e=>absurd e (by simpa using hk0)) (by omega)
   ·obtain rfl:kj=0:=by simpa using hk0
    have hb1:Hid (i≤j∧k=0):=⟨q.le,q.ok rfl⟩
    replace HC:Hid ((fun ks=>∀x∈ks,tyK x) (vs.map labOf)):=HC.out rfl
    have HJ:Hid (∀i' k',j≤i'→Bd N t i' k' 3):=fun i' k' h1=>HN.out.down (Nat.le_trans q.le h1) (fun _=>q.ok rfl) (by decide)
    have hFl:vs.length≤6001:=by have:=hF.1 rfl;have:=h.good.few;omega
    replace q:Mz 3 w rb tb cap t j 0 False (16*((j:Int) - (i:Int))+(0)) wr j 0 aj [] [] (.slice ao2 vs.length cp2) vs:=q.rebase.less (by omega)
    go_wp2_with fail
    refine q.lf ok21b ?_
    clear q
    intro w4 q
    go_wp2_with fail
    refine q.nd (hX · (HJ.out _ _ q.le)) ?_
    clear q
    intro w5 x5 i5 k5 a5 hc5 ok5 q
    go_wp2_with (at_builtin;refine q.ap (sz w5) (Nat.le_trans hFl (by decide)) ?_;clear q;intro w6 ao6 cp6 q)
    go_wp2_with fail
    refine q.et (eat42 · _) ?_
    clear q
    intro w7 b7 i7 hE7 q
    go_wp2_with fail
    ·go_wp2_with fail
     go_ret
     exact Mz.post (d:=0) ((q.unbase (i':=i) (k':=k) (g':=False) (s':= -8) hb1.out.1 (fun _=>hb1.out.2) (fun x=>x.elim) (by omega)).up (g':=True) (fun _ e=>Nat.lt_of_le_of_lt hb1.out.1 (q.go trivial e))) (fun _=>trivial) (by have h1:=hF.1 rfl;have h2:=h.good.few;simp only[List.length_append,List.length_cons,List.length_nil];omega) (fun e=>by rw[List.map_append];exact all_snoc HC.out (hc5 e)) (by omega)
    ·go_wp2_with fail
     refine q.wn (want39 · _) ?_
     clear q
     intro w8 i8 k8 a8 ok8 q
     go_wp2_with fail
     go_roundg (ml t i8 k8)
     case measure=>rw[HG.out];exact ml_lt hj q.le (q.go trivial)
     case rel=>exact⟨(vs++[x5.t]),i8,k8,a8,rfl,Few.snoc (t:=t) hF rfl hj h.good (q.go trivial),(fun e=>by rw[List.map_append];exact all_snoc HC.out (hc5 (ok8.out e))),q.unbase (s':=0) hb1.out.1 (fun _=>hb1.out.2) (fun x=>x.elim) (by omega)⟩
end Go.Proofs.YtagdihffmjopaaaGreatDoor
namespace Go.Proofs.YtagdihffmjopaaaGreatDoor
set_option linter.all false
open Go.RowKit
set_option maxRecDepth 100000 in
set_option maxHeartbeats 1000000 in
theorem lifeZ:noQ 3 102 True 8 fun x=>x=19:=by
 intro w rb tb cap i t k a h
 have hl:=h.l
 have hposI:(0:Int)≤(t.pos i:Int)∧(t.pos i:Int)≤7000:=by have:=h.good.posb i;omega
 go_enter Tryz.func102,Tryz.ntmps102
 have hfd:=fld103_2
 have hi:(i:Int)<(t.len:Int):=by have:=h.lt;omega
 have hfew:(t.len:Int)≤6001:=by have:=h.good.few;omega
 have q:=Mz.start (wt:=3) h
 go_wp2_with fail
 refine(q.ne' (sz w) (zeroC)).lf (node20 · 19) ?_
 clear q
 intro w1 q
 have F:=q.f1
 cases hq:kindB t i k 0 4
 ·go_wp2_with fail
  refine(q.ne' (sz w1) (nk 19 (t.pos i) nl)).lf (kind22 · 0 (by decide) 4) ?_
  clear q F
  intro w2 q
  have F:=q.f2
  go_wp2_with fail
  refine(bad64 q.st.rd).mono ?_
  rintro e w3 ⟨rfl,⟨k3,a3,hk3,h3⟩,hk3'⟩
  replace q:=((q.rk h3 hk3' (Nat.le_refl _) (fun e=>absurd e hk3)).up (g':=True) (fun _ e=>absurd e hk3)).dead (s':=(-100)) hk3
  clear h3 hk3'
  replace F:=q.f2
  go_wp2_with fail
  go_light
  exact Mz.retb (C:=fun x=>x=19) (d:=8) Tryz.results102 rfl rfl (q.lk 19 (t.pos i) 0 0 ⟨#[]⟩ hposI (by decide) (fun e=>absurd e hk3)) 1 rfl (fun _=>rfl) (by omega) rfl
 ·go_wp2_with fail
  refine(q.ne' (sz w1) (nk 19 (t.pos i) nl)).lf (kind22 · 0 (by decide) 4) ?_
  clear q F
  intro w4 q
  have F:=q.f2
  have hlt:i+1<t.len:=(kindB_lt h.good h.lt (by decide) hq).2.1
  go_wp2_with fail
  refine q.lf tok38 ?_
  clear q F
  intro w5 q
  have F:=q.f2
  have r1:=q.st.rd.r1
  have fr1:=q.st.rd.fz 1
  have lr:=q.st.rd.l
  go_wp2_with fail
  go_light
  exact Mz.retb (C:=fun x=>x=19) (d:=8) Tryz.results102 rfl rfl (((q.p04 (t.text i)).goI (j':=i+1) hlt (Nat.lt_succ_self _)).lk 19 (t.pos i) 0 0 (t.text i) hposI (Nat.le_trans (h.good.textb i) (by decide)) (fun _=>Gr.free (by unfold frK;decide))) 1 rfl (fun _=>rfl) (by omega) rfl
end Go.Proofs.YtagdihffmjopaaaGreatDoor
namespace Go.Proofs.YtagdihffmjopaaaGreatDoor
set_option linter.all false
open Go.RowKit
theorem ref_stepZ {N:Nat} (hT:tyQ 3 N):refQ 3 (N+1):=by
 intro w rb tb cap i t k a h hk hlt hN
 have HB:Hid (∀i' k' r',(k'=0→i<i')→r'<64→Bd N t i' k' r'):=hN.any2 hk h.lt
 cases hd:isB t i k 0 ⟨#[38,38]⟩<;>cases hq:kindB t (i+1) k 0 4
 ·exact refZsn hT lifeZ h hlt HB hd hq
 ·exact refZsl hT lifeZ h hlt HB hd hq
 ·exact refZdn hT lifeZ h hlt HB hd hq
 ·exact refZdl hT lifeZ h hlt HB hd hq
theorem typ_stepZ {N:Nat} (hT:tyQ 3 N) (hTs:tysQ 3 N) (hR:refQ 3 N) (hA:argsQ 3 N):tyQ 3 (N+1):=by
 intro w rb tb cap i t k a h hN
 cases h1:isB t i k 0 ⟨#[105,110,116]⟩
 ·cases h2:isB t i k 0 ⟨#[98,111,111,108]⟩
  ·cases h3:isB t i k 0 ⟨#[40]⟩
   ·cases h4:isB t i k 0 ⟨#[38]⟩
    ·cases h5:isB t i k 0 ⟨#[38,38]⟩
     ·cases h6:isB t i k 0 ⟨#[102,110]⟩
      ·exact typZ_path hA h hN h1 h2 h3 h4 h5 h6
      ·cases h7:kindB t (i+1) k 0 4
       ·exact typZ_fn hTs hT lifeZ h hN h1 h2 h3 h4 h5 h6 h7
       ·exact typZ_fnL hTs hT lifeZ h hN h1 h2 h3 h4 h5 h6 h7
     ·exact typZ_ref2 hR h hN h1 h2 h3 h4 h5
    ·exact typZ_ref hR h hN h1 h2 h3 h4
   ·exact typZ_tup hTs h hN h1 h2 h3
  ·exact typZ_bool h hN h1 h2
 ·exact typZ_int h hN h1
theorem types_allZ:(N:Nat)→tyQ 3 N∧tysQ 3 N∧refQ 3 N∧argsQ 3 N
 |0=>⟨fun _ hN=>absurd hN.2 (by decide),fun _ hN=>absurd hN.2 (by decide),fun _ _ _ hN=>absurd hN.2 (by decide),fun _ hN=>absurd hN.2 (by decide)⟩
 |N+1=>
  let⟨hT,hTs,hR,hA⟩:=types_allZ N
  ⟨typ_stepZ hT hTs hR hA,typesZ hT,ref_stepZ hT,argsZ hT lifeZ⟩
theorem NodeZ.le {w:World} {rb tb cap i:Nat} {t:Tk} {k d:Int} {must:Prop} {C:Int→Prop} {e:Ending} {w':World} (h:NodeZ 3 w rb tb cap t i k must d C e w'):NodeZ 1 w rb tb cap t i k must d C e w':=by
 obtain⟨x1,x2,x3,x4,x5,x6,x7,x8,i',k',a',h1,h2,h3,h4,h5⟩:=h
 exact⟨x1,x2,x3,x4,x5,x6,x7,x8,i',k',a',h1,h2,h3,h4,fun e f=>by have:=h5 e f;rw[nsy_nsz] at this⊢;omega⟩
theorem typ_anyZ (N:Nat):tyQ 1 N:=fun h hN=>((types_allZ N).1 h hN).mono (fun _ _ p=>p.le)
theorem lifeZ1:noQ 1 102 True 8 fun x=>x=19:=fun h=>(lifeZ h).mono (fun _ _ p=>p.le)
theorem tot_len (f:Nat) (w:World) (vs:List (List Value)):(vs.length:Int)≤tot 1 (f+1) w vs:=by
 induction vs with
 |nil=>rw[tot_nil];simp
 |cons x vs ih=>
  have h1:1≤nsy 1 (f+1) w x:=by show 1≤1+_;omega
  rw[tot_cons,List.length_cons]
  omega
theorem Mz.list2 {w W w':World} {rb tb cap i j:Nat} {t:Tk} {k kj aj:Int} {g:Prop} {s:Int} {L:List (Nat × Array Value)} {T:List (List Value)} (q:Mz 1 w rb tb cap t i k g s W j kj aj L T (.slice none 0 0) []) {must:Prop} {i':Nat} {k' a':Int} (hx:Nx W rb tb cap t j kj must w' i' k' a') {kv':Value} {vs':List (List Value)} (hK:Kids W.heap.size (k'=0) w' kv' vs') (hz:k'=0→∀f,tot 3 f w' vs'+0≤16*((i':Int) - (j:Int))):Mz 1 w rb tb cap t i k g (s - vs'.length) w' i' k' a' L (vs'++T) kv' vs':=by
 have hz':k'=0→∀f,tot 1 f w' vs'+0≤16*((i':Int) - (j:Int)):=fun e f=>by
  have h1:=hz e f
  have h2:=tot_nonneg 1 f w' vs'
  rw[tot_wt] at h1
  omega
 have q0:=q.list hx hK hz'
 obtain⟨h,ha⟩:=q0.mid.all
 have q1:=q.nx hx
 refine⟨⟨q0.mid.st,q0.mid.le,q0.mid.ok,q0.mid.go,q0.mid.blk,q0.mid.nd,q0.mid.row,q0.mid.rown,h,fun x hx=>ha x ?_⟩,fun e f=>?_⟩
 ·rcases hx with hx|hx
  ·exact .inl hx
  ·rcases List.mem_append.1 hx with hx|hx
   ·exact .inl hx
   ·exact .inr hx
 ·have key:∀f,tot 1 (f+1) w' vs'+tot 1 (f+1) w' (vs'++T)≤16*((i':Int) - (i:Int))+(s - vs'.length):=fun f=>by
   have h1:=hz e (f+1)
   have h2:=tot_len f w' vs'
   have h3:=(q.mid.tots_kp (wt:=1) hx.kp (f+1)).2
   have h4:=q.sz (hx.ok e) (f+1)
   rw[tot_wt] at h1
   rw[tot_append,h3]
   rw[tot_nil] at h4
   omega
  cases f with
  |zero=>
   have h1:=key 0
   have h2:tot 1 0 w' vs'≤tot 1 1 w' vs':=by have:=nsy_mono 1 0 w' vs';simp only[Nat.zero_add] at this;unfold tot;omega
   have h3:tot 1 0 w' (vs'++T)≤tot 1 1 w' (vs'++T):=by have:=nsy_mono 1 0 w' (vs'++T);simp only[Nat.zero_add] at this;unfold tot;omega
   simp only[Nat.zero_add] at h1
   omega
  |succ f=>exact key f
end Go.Proofs.YtagdihffmjopaaaGreatDoor
namespace Go.Proofs.YtagdihffmjopaaaGreatDoor
set_option linter.all false
open Go.RowKit
set_option maxRecDepth 100000 in
set_option maxHeartbeats 1000000 in
theorem exprZ {N:Nat} (hA:exZ 109 17 N) (hE:exZ 86 18 N):exZ 86 18 (N+1):=by
 intro w rb tb cap i t k a h hN
 have hl:=h.l
 have HN:Hid (Bd (N+1) t i k 18):=hN
 clear hN
 have hposI:(0:Int)≤(t.pos i:Int)∧(t.pos i:Int)≤7000:=by have:=h.good.posb i;omega
 go_enter Tryz.func86,Tryz.ntmps86
 have q:=Mz.start (wt:=1) h
 go_wp2_with fail
 replace q:=q.ne' (sz w) (zeroC)
 refine q.nd (hA · (HN.out.down q.le q.ok (by decide))) ?_
 clear q
 intro w1 x1 i1 k1 a1 hc1 ok1 q
 have F:=q.f1
 have hposA:(0:Int)≤(t.pos i1:Int)∧(t.pos i1:Int)≤7000:=by have:=h.good.posb i1;omega
 go_wp2_with fail
 refine(q.ne' (sz w1) x1.a).lf (is41 · 0 (by decide) _) ?_
 clear q F
 intro w2 q
 have F:=q.f2
 go_wp2_with fail
 ·have HB:Hid (∀i' k' r',(k'=0→i<i')→r'<64→Bd N t i' k' r'):=HN.out.any2 (q.ok (isB_lt h.good q.st.rd.lt ‹_›).1) h.lt
  go_wp2_with fail
  refine q.lf (node20 · 32) ?_
  clear q F
  intro w3 q
  have F:=q.f2
  go_wp2_with fail
  refine(q.ne' (sz w3) (nk 32 (t.pos i1) nl)).wn (want39 · _) ?_
  clear q F
  intro w4 i4 k4 a4 ok4 q
  have F:=q.f3
  go_wp2_with fail
  go_region_law (replace q:=q.drew;go_simp;refine q.nd (hE · (q.bd HB.out (by decide))) ?_;clear q F;intro w5 x5 i5 k5 a5 hc5 ok5 q;have F:=q.f3)
  all_goals
   go_wp2_with fail
   go_light
   refine(((q.swap).p05 (sl (sz w5) 2)).l2 (sz w5) 32 (t.pos i1) 0 0 ⟨#[]⟩ hposA (hG:=fun e=>Gr.of_two (by decide) ⟨_,_,rfl,hc1 (ok4.out (ok5.out e)),hc5 e⟩)).rt Tryz.results86 2 ?_
   simp[set11,World.setCell_alloc_past,F,Nat.lt_succ_of_lt]
 ·go_wp2_with fail
  go_light
  exact q.rt Tryz.results86 1 (hC:=hc1)
end Go.Proofs.YtagdihffmjopaaaGreatDoor
namespace Go.Proofs.YtagdihffmjopaaaGreatDoor
set_option linter.all false
open Go.RowKit
set_option maxRecDepth 100000 in
set_option maxHeartbeats 1000000 in
theorem orZ {N:Nat} (hA:exZ 123 16 N):exZ 109 17 (N+1):=by
 intro w rb tb cap i t k a h hN
 have hl:=h.l
 have HN:Hid (Bd (N+1) t i k 17):=hN
 clear hN
 have hposI:(0:Int)≤(t.pos i:Int)∧(t.pos i:Int)≤7000:=by have:=h.good.posb i;omega
 go_enter Tryz.func109,Tryz.ntmps109
 have q:=Mz.start (wt:=1) h
 go_wp2_with fail
 replace q:=q.ne' (sz w) (zeroC)
 refine q.nd (hA · (HN.out.down q.le q.ok (by decide))) ?_
 clear q
 intro w1 x1 i1 k1 a1 hc1 ok1 q
 have F:=q.f1
 go_wp2_with fail
 go_loopg [4] (ml t i1 k1) (fun g _ wr=>∃(xe:Nf) (j:Nat) (kj aj:Int),g=ml t j kj∧Hid (kj=0→noK (labOf xe.t))∧Mz 1 w rb tb cap t i k True (-8) wr j kj aj [(sz w1,xe.a),(sz w,zeroC)] [xe.t] nl [])
 case atStart=>exact⟨x1,i1,k1,a1,rfl,hc1,(q.ne' (sz w1) x1.a).less (by omega)⟩
 case round=>
  clear F q
  obtain⟨xe,j,kj,aj,hgk,HX,q⟩:=hrel
  have hj:=q.st.rd.lt
  have hposJ:(0:Int)≤(t.pos j:Int)∧(t.pos j:Int)≤7000:=by have:=h.good.posb j;omega
  have HG:Hid (gk=ml t j kj):=hgk
  clear hgk
  have F:=q.f2
  cases hk0:(kj==0)
  ·go_wp2_with fail
   refine q.lf ok21b ?_
   clear q F
   intro w2 q
   have F:=q.f2
   go_wp2_with fail
   go_light
   exact q.rt Tryz.results109 1 (hC:=HX.out)
  ·obtain rfl:kj=0:=by simpa using hk0
   have HX0:Hid _:=HX.out rfl
   clear HX
   have hb1:Hid (i≤j∧k=0∧i<j):=⟨q.le,q.ok rfl,q.go trivial rfl⟩
   have HJ:Hid (∀i' k' r',j≤i'→r'<64→Bd N t i' k' r'):=fun i' k' r' h1 h2=>HN.out.any2 hb1.out.2.1 h.lt _ _ _ (fun _=>Nat.lt_of_lt_of_le hb1.out.2.2 h1) h2
   replace q:=q.rebase
   go_wp2_with fail
   refine q.lf ok21b ?_
   clear q F
   intro w3 q
   have F:=q.f2
   go_wp2_with fail
   refine q.lf (is41 · 0 (by decide) _) ?_
   clear q F
   intro w4 q
   have F:=q.f2
   go_wp2_with fail
   ·go_wp2_with fail
    refine q.lf (node20 · 31) ?_
    clear q F
    intro w5 q
    have F:=q.f2
    go_wp2_with fail
    refine(q.ne' (sz w5) (nk 31 (t.pos j) nl)).wn (want39 · _) ?_
    clear q F
    intro w6 i6 k6 a6 ok6 q
    have F:=q.f3
    go_wp2_with fail
    go_region_law (replace q:=q.drew;go_simp;refine q.nd (hA · (HJ.out _ _ _ q.le (by decide))) ?_;clear q F;intro w7 x7 i7 k7 a7 hc7 ok7 q;have F:=q.f3)
    all_goals
     go_wp2_with fail
     go_roundg (ml t i7 k7)
     case measure=>rw[HG.out];exact ml_lt hj ((((q.swap).p05 (sl (sz w7) 2)).pA1 31 (t.pos j) 0 0 ⟨#[]⟩ (sl (sz w7) 2)).l2 (sz w7) 31 (t.pos j) 0 0 ⟨#[]⟩ hposJ (hG:=fun e=>Gr.of_two (by decide) ⟨_,_,rfl,HX0.out,hc7 e⟩)).pop.le (((((q.swap).p05 (sl (sz w7) 2)).pA1 31 (t.pos j) 0 0 ⟨#[]⟩ (sl (sz w7) 2)).l2 (sz w7) 31 (t.pos j) 0 0 ⟨#[]⟩ hposJ (hG:=fun e=>Gr.of_two (by decide) ⟨_,_,rfl,HX0.out,hc7 e⟩)).pop.go trivial)
     case rel=>exact⟨⟨31,(t.pos j),0,0,⟨#[]⟩,(some ⟨(sz w7),0,none⟩),2,2⟩,i7,k7,a7,rfl,(fun _=>noK_lab (ki:=31) (by unfold noK;decide)),((((q.swap).p05 (sl (sz w7) 2)).pA1 31 (t.pos j) 0 0 ⟨#[]⟩ (sl (sz w7) 2)).l2 (sz w7) 31 (t.pos j) 0 0 ⟨#[]⟩ hposJ (hG:=fun e=>Gr.of_two (by decide) ⟨_,_,rfl,HX0.out,hc7 e⟩)).pop.unbase (s':= -8) (g':=True) hb1.out.1 (fun _=>hb1.out.2.1) (fun _ _=>hb1.out.2.2) (by omega)⟩
   ·go_wp2_with fail
    go_light
    exact(q.unbase (s':= -8) (g':=True) hb1.out.1 (fun _=>hb1.out.2.1) (fun _ _=>hb1.out.2.2) (by omega)).rt Tryz.results109 1 (hC:=fun _=>HX0.out)
end Go.Proofs.YtagdihffmjopaaaGreatDoor
