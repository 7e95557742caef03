/- Two with a sign between, counted. -/
import Derived.Test.YtdplogkmkgekdaaGreatDoorZParams
import Derived.Test.YtdplogkmkgekdaaGreatDoorFRefdn
import Derived.Test.YtdplogkmkgekdaaGreatDoorFTyppath
import Derived.Test.YtdplogkmkgekdaaGreatDoorGmc
import Derived.Test.YtdplogkmkgekdaaGreatDoorMid
set_option linter.all false
set_option maxRecDepth 100000
set_option maxHeartbeats 4000000
namespace Go.Proofs.YtdplogkmkgekdaaGreatDoor
open Go.RowKit
theorem argsF_ {N:Nat} (hT:tyF 3 N) (hLi:noF 3 204 True 8 (fun x=>x=19) (fun t _=>gLife t)):argsF 3 (N+1):=by
 intro w rb tb cap i t k a h hN
 have hl:=h.l
 have HN:Hid (Bd (N+1) t i k 4):=hN
 clear hN
 go_enter Tryz.func207,Tryz.ntmps207
 have q:=Mf.start (wt:=3) h
 go_wp2_with fail
 go_loopg [3] (ml t i k) (fun g v wr=>∃(vs:List (List Value)) (j:Nat) (kj aj:Int),g=ml t j kj∧Few 0 vs j kj∧(kj=0→(fun ks=>∀x∈ks,x=19) (vs.map labOf))∧∃(V:List (List Nr)),Hid (∀r r2,EvL (fun _=>gArgsB t) (V,false) ⟨j,kj,aj⟩ r→Ev (fun n=>cond r.1.2 (ret r.1.1) (gRow t (gG t n 0) ⟨#[62]⟩ n r.1.1)) r.2 r2→Ev (fun n=>gArgs t (gG t n 0) n) ⟨i,k,a⟩ r2)∧Mf 3 w rb tb cap t i k False (0) wr j kj aj [] [] v vs [] V)
 case atStart=>exact⟨[],i,k,a,rfl,⟨fun _=>by simp,by simp⟩,(fun e=>(fun x hx=>by cases hx)),_,(fun r r2 hr h2=>(Ev.bnd hr.ev h2)),(q.up (fun x=>x.elim)).less (by omega)⟩
 case round=>
  clear q
  obtain⟨vs,j,kj,aj,hgk,hF,hC0,V,HM,q⟩:=hrel
  have HC:Hid (kj=0→(fun ks=>∀x∈ks,x=19) (vs.map labOf)):=hC0
  clear hC0
  have hj:=q.st.rd.lt
  have hposJ:(0:Int)≤(t.pos j:Int)∧(t.pos j:Int)≤7000:=by have:=h.good.posb j;omega
  have HG:Hid (gk=ml t j kj):=hgk
  clear hgk
  obtain⟨ao1,cp1,rfl⟩:=q.shape
  cases hk0:(kj==0)
  ·go_wp2_with fail
   refine q.lf ok21b ?_
   clear q
   intro w2 q
   go_wp2_with fail
   have HKB:Hid (kindB t j kj 0 4=false):=kindB_off hk0
   clear HG hk0 hj hposJ
   go_loopg [3] (ml t j kj) (fun g v wr=>∃(vs:List (List Value)) (j:Nat) (kj aj:Int),g=ml t j kj∧Few 0 vs j kj∧(kj=0→argK (vs.map labOf))∧∃(V:List (List Nr)),Hid (∀r,EvL (fun n=>gRowB t (gG t n 0) ⟨#[62]⟩) V ⟨j,kj,aj⟩ r→Ev (fun n=>gArgs t (gG t n 0) n) ⟨i,k,a⟩ r)∧Mf 3 w rb tb cap t i k False (0) wr j kj aj [] [] v vs [] V)
   case atStart=>exact⟨vs,j,kj,aj,rfl,hF,(fun e=>argK_life (HC.out e)),V,(fun r hr=>HM.out ((V,false),⟨j,kj,aj⟩) r (EvL.stop (by have hkb:=HKB.out;unfold gArgsB;exact evt)) (Ev.no (b:=false) rfl hr.ev)),(q.up (fun x=>x.elim)).less (by omega)⟩
   case round=>
    clear q
    obtain⟨vs,j,kj,aj,hgk,hF,hC0,V,HM,q⟩:=hrel
    have HC:Hid (kj=0→argK (vs.map labOf)):=hC0
    clear hC0
    have hj:=q.st.rd.lt
    have hposJ:(0:Int)≤(t.pos j:Int)∧(t.pos j:Int)≤7000:=by have:=h.good.posb j;omega
    have HG:Hid (gk=ml t j kj):=hgk
    clear hgk
    obtain⟨ao3,cp3,rfl⟩:=q.shape
    cases hk0:(kj==0)
    ·go_wp2_with fail
     refine q.lf ok21b ?_
     clear q
     intro w4 q
     go_wp2_with fail
     go_ret
     exact Mf.post (d:=0) (q.up (g':=True) (fun _ e=>absurd e (by simpa using hk0))) (fun _=>trivial) hF.2 (fun e=>absurd e (by simpa using hk0)) (by omega) (HM.out _ (EvL.stop (by unfold gRowB;exact evt)))
    ·obtain rfl:kj=0:=by simpa using hk0
     have hb1:Hid (i≤j∧k=0):=⟨q.le,q.ok rfl⟩
     replace HC:Hid (argK (vs.map labOf)):=HC.out rfl
     have HJ:Hid (∀i' k',j≤i'→Bd N t i' k' 3):=fun i' k' h1=>HN.out.down (Nat.le_trans q.le h1) (fun _=>q.ok rfl) (by decide)
     have hFl:vs.length≤6001:=by have:=hF.1 rfl;have:=h.good.few;omega
     replace q:Mf 3 w rb tb cap t j 0 False (16*((j:Int) - (i:Int))+(0)) wr j 0 aj [] [] (.slice ao3 vs.length cp3) vs [] V:=q.rebase.less (by omega)
     go_wp2_with fail
     refine q.lf ok21b ?_
     clear q
     intro w5 q
     go_wp2_with fail
     refine q.nd (hT · (HJ.out _ _ q.le)) ?_
     clear q
     intro w6 x6 i6 k6 a6 y6 hc6 ok6 m6 q
     go_wp2_with (at_builtin;refine q.ap (sz w6) (Nat.le_trans hFl (by decide)) ?_;clear q;intro w7 ao7 cp7 q)
     go_wp2_with fail
     refine q.et (eat42 · _) ?_
     clear q
     intro w8 b8 i8 hE8 m8 q
     go_wp2_with fail
     ·go_wp2_with fail
      go_ret
      exact Mf.post (d:=0) ((q.unbase (i':=i) (k':=k) (g':=False) (s':= -8) hb1.out.1 (fun _=>hb1.out.2) (fun x=>x.elim) (by omega)).up (g':=True) (fun _ e=>Nat.lt_of_le_of_lt hb1.out.1 (q.go trivial e))) (fun _=>trivial) (by have h1:=hF.1 rfl;have h2:=h.good.few;simp only[List.length_append,List.length_cons,List.length_nil];omega) (fun e=>by rw[List.map_append];exact argK_ty HC.out (hc6 e)) (by omega) (HM.out _ (EvL.stop (by unfold gRowB;exact evt)))
     ·go_wp2_with fail
      refine q.wn (want39F · _) ?_
      clear q
      intro w9 i9 k9 a9 ok9 m9 q
      go_wp2_with fail
      go_roundg (ml t i9 k9)
      case measure=>rw[HG.out];exact ml_lt hj q.le (q.go trivial)
      case rel=>exact⟨(vs++[x6.t]),i9,k9,a9,rfl,Few.snoc (t:=t) hF rfl hj h.good (q.go trivial),(fun e=>by rw[List.map_append];exact argK_ty HC.out (hc6 (ok9.out e))),_,(fun r hr=>HM.out r (EvL.on (by unfold gRowB;exact evt) hr)),q.unbase (s':=0) hb1.out.1 (fun _=>hb1.out.2) (fun x=>x.elim) (by omega)⟩
  ·obtain rfl:kj=0:=by simpa using hk0
   have hb1:Hid (i≤j∧k=0):=⟨q.le,q.ok rfl⟩
   replace HC:Hid ((fun ks=>∀x∈ks,x=19) (vs.map labOf)):=HC.out rfl
   have HJ:Hid (∀i' k',j≤i'→Bd N t i' k' 3):=fun i' k' h1=>HN.out.down (Nat.le_trans q.le h1) (fun _=>q.ok rfl) (by decide)
   have hFl:vs.length≤6001:=by have:=hF.1 rfl;have:=h.good.few;omega
   replace q:Mf 3 w rb tb cap t j 0 False (16*((j:Int) - (i:Int))+(0)) wr j 0 aj [] [] (.slice ao1 vs.length cp1) vs [] V:=q.rebase.less (by omega)
   go_wp2_with fail
   refine q.lf ok21b ?_
   clear q
   intro w10 q
   cases hq:kindB t j 0 0 4
   ·go_wp2_with fail
    refine q.lf (kind22 · 0 (by decide) 4) ?_
    clear q
    intro w11 q
    replace q:Mf 3 w rb tb cap t i k False (0) w11 j 0 aj [] [] (.slice ao1 vs.length cp1) vs [] V:=q.unbase (i':=i) (k':=k) (g':=False) (s':=0) hb1.out.1 (fun _=>hb1.out.2) (fun x=>x.elim) (by omega)
    go_wp2_with fail
    have HKB:Hid (kindB t j 0 0 4=false):=hq
    clear HG hk0 hj hq hposJ HJ hFl hb1
    go_loopg [3] (ml t j 0) (fun g v wr=>∃(vs:List (List Value)) (j:Nat) (kj aj:Int),g=ml t j kj∧Few 0 vs j kj∧(kj=0→argK (vs.map labOf))∧∃(V:List (List Nr)),Hid (∀r,EvL (fun n=>gRowB t (gG t n 0) ⟨#[62]⟩) V ⟨j,kj,aj⟩ r→Ev (fun n=>gArgs t (gG t n 0) n) ⟨i,k,a⟩ r)∧Mf 3 w rb tb cap t i k False (0) wr j kj aj [] [] v vs [] V)
    case atStart=>exact⟨vs,j,0,aj,rfl,hF,(fun e=>argK_life HC.out),V,(fun r hr=>HM.out ((V,false),⟨j,0,aj⟩) r (EvL.stop (by have hkb:=HKB.out;unfold gArgsB;exact evt)) (Ev.no (b:=false) rfl hr.ev)),(q.up (fun x=>x.elim)).less (by omega)⟩
    case round=>
     clear q
     obtain⟨vs,j,kj,aj,hgk,hF,hC0,V,HM,q⟩:=hrel
     have HC:Hid (kj=0→argK (vs.map labOf)):=hC0
     clear hC0
     have hj:=q.st.rd.lt
     have hposJ:(0:Int)≤(t.pos j:Int)∧(t.pos j:Int)≤7000:=by have:=h.good.posb j;omega
     have HG:Hid (gk=ml t j kj):=hgk
     clear hgk
     obtain⟨ao12,cp12,rfl⟩:=q.shape
     cases hk0:(kj==0)
     ·go_wp2_with fail
      refine q.lf ok21b ?_
      clear q
      intro w13 q
      go_wp2_with fail
      go_ret
      exact Mf.post (d:=0) (q.up (g':=True) (fun _ e=>absurd e (by simpa using hk0))) (fun _=>trivial) hF.2 (fun e=>absurd e (by simpa using hk0)) (by omega) (HM.out _ (EvL.stop (by unfold gRowB;exact evt)))
     ·obtain rfl:kj=0:=by simpa using hk0
      have hb1:Hid (i≤j∧k=0):=⟨q.le,q.ok rfl⟩
      replace HC:Hid (argK (vs.map labOf)):=HC.out rfl
      have HJ:Hid (∀i' k',j≤i'→Bd N t i' k' 3):=fun i' k' h1=>HN.out.down (Nat.le_trans q.le h1) (fun _=>q.ok rfl) (by decide)
      have hFl:vs.length≤6001:=by have:=hF.1 rfl;have:=h.good.few;omega
      replace q:Mf 3 w rb tb cap t j 0 False (16*((j:Int) - (i:Int))+(0)) wr j 0 aj [] [] (.slice ao12 vs.length cp12) vs [] V:=q.rebase.less (by omega)
      go_wp2_with fail
      refine q.lf ok21b ?_
      clear q
      intro w14 q
      go_wp2_with fail
      refine q.nd (hT · (HJ.out _ _ q.le)) ?_
      clear q
      intro w15 x15 i15 k15 a15 y15 hc15 ok15 m15 q
      go_wp2_with (at_builtin;refine q.ap (sz w15) (Nat.le_trans hFl (by decide)) ?_;clear q;intro w16 ao16 cp16 q)
      go_wp2_with fail
      refine q.et (eat42 · _) ?_
      clear q
      intro w17 b17 i17 hE17 m17 q
      go_wp2_with fail
      ·go_wp2_with fail
       go_ret
       exact Mf.post (d:=0) ((q.unbase (i':=i) (k':=k) (g':=False) (s':= -8) hb1.out.1 (fun _=>hb1.out.2) (fun x=>x.elim) (by omega)).up (g':=True) (fun _ e=>Nat.lt_of_le_of_lt hb1.out.1 (q.go trivial e))) (fun _=>trivial) (by have h1:=hF.1 rfl;have h2:=h.good.few;simp only[List.length_append,List.length_cons,List.length_nil];omega) (fun e=>by rw[List.map_append];exact argK_ty HC.out (hc15 e)) (by omega) (HM.out _ (EvL.stop (by unfold gRowB;exact evt)))
      ·go_wp2_with fail
       refine q.wn (want39F · _) ?_
       clear q
       intro w18 i18 k18 a18 ok18 m18 q
       go_wp2_with fail
       go_roundg (ml t i18 k18)
       case measure=>rw[HG.out];exact ml_lt hj q.le (q.go trivial)
       case rel=>exact⟨(vs++[x15.t]),i18,k18,a18,rfl,Few.snoc (t:=t) hF rfl hj h.good (q.go trivial),(fun e=>by rw[List.map_append];exact argK_ty HC.out (hc15 (ok18.out e))),_,(fun r hr=>HM.out r (EvL.on (by unfold gRowB;exact evt) hr)),q.unbase (s':=0) hb1.out.1 (fun _=>hb1.out.2) (fun x=>x.elim) (by omega)⟩
   ·go_wp2_with fail
    refine q.lf (kind22 · 0 (by decide) 4) ?_
    clear q
    intro w19 q
    go_wp2_with fail
    refine q.nd hLi ?_
    clear q
    intro w20 x20 i20 k20 a20 y20 hc20 ok20 m20 q
    go_wp2_with (at_builtin;refine q.ap (sz w20) (Nat.le_trans hFl (by decide)) ?_;clear q;intro w21 ao21 cp21 q)
    go_wp2_with fail
    refine q.et (eat42 · _) ?_
    clear q
    intro w22 b22 i22 hE22 m22 q
    go_wp2_with fail
    ·go_wp2_with fail
     go_ret
     exact Mf.post (d:=0) ((q.unbase (i':=i) (k':=k) (g':=False) (s':= -8) hb1.out.1 (fun _=>hb1.out.2) (fun x=>x.elim) (by omega)).up (g':=True) (fun _ e=>Nat.lt_of_le_of_lt hb1.out.1 (q.go trivial e))) (fun _=>trivial) (by have h1:=hF.1 rfl;have h2:=h.good.few;simp only[List.length_append,List.length_cons,List.length_nil];omega) (fun e=>argK_life ((fun e=>by rw[List.map_append];exact all_snoc HC.out (hc20 e)) e)) (by omega) (HM.out ((_,true),_) _ (EvL.stop (by unfold gArgsB;exact evt)) evt)
    ·go_wp2_with fail
     refine q.wn (want39F · _) ?_
     clear q
     intro w23 i23 k23 a23 ok23 m23 q
     go_wp2_with fail
     go_roundg (ml t i23 k23)
     case measure=>rw[HG.out];exact ml_lt hj q.le (q.go trivial)
     case rel=>exact⟨(vs++[x20.t]),i23,k23,a23,rfl,Few.snoc (t:=t) hF rfl hj h.good (q.go trivial),(fun e=>by rw[List.map_append];exact all_snoc HC.out (hc20 (ok23.out e))),_,(fun r r2 hr=>HM.out r r2 (EvL.on (by unfold gArgsB;exact evt) hr)),q.unbase (s':=0) hb1.out.1 (fun _=>hb1.out.2) (fun x=>x.elim) (by omega)⟩
end Go.Proofs.YtdplogkmkgekdaaGreatDoor
namespace Go.Proofs.YtdplogkmkgekdaaGreatDoor
open Go.RowKit
theorem typesF {N:Nat} (hX:tyF 3 N):tysF 3 (N+1):=by
 intro w rb tb cap i t k a h hN s
 have hl:=h.l
 have HN:Hid (Bd (N+1) t i k 4):=hN
 clear hN
 go_enter Tryz.func170,Tryz.ntmps170
 have q:=Mf.start (wt:=3) h
 go_wp2_with fail
 refine q.et (eat42 · _) ?_
 clear q
 intro w1 b1 i1 hE1 m1 q
 go_wp2_with fail
 ·go_wp2_with fail
  go_ret
  exact Mf.post (d:=0) (q.up (g':=True) (fun _ _=>by have:=(hE1.yes ‹_›).1;omega)) (fun _=>trivial) (by simp) (fun _ x hx=>by cases hx) (by omega) (by unfold gList;unfold gRow;exact evt)
 ·obtain rfl:b1=false:= ‹_›
  go_wp2_with fail
  go_loopg [5] (ml t i1 k) (fun g v wr=>∃(vs:List (List Value)) (j:Nat) (kj aj:Int),g=ml t j kj∧Few 0 vs j kj∧(kj=0→(fun ks=>∀x∈ks,tyK x) (vs.map labOf))∧∃(V:List (List Nr)),Hid (∀r,EvL (fun n=>gRowB t (gG t n 0) s) V ⟨j,kj,aj⟩ r→Ev (fun n=>gList t (gG t n 0) s n) ⟨i,k,a⟩ r)∧Mf 3 w rb tb cap t i k False (0) wr j kj aj [] [] v vs [] V)
  case atStart=>exact⟨[],i1,k,a,rfl,⟨fun _=>by simp,by simp⟩,(fun e=>(fun x hx=>by cases hx)),_,(fun r hr=>(by unfold gList;unfold gRow;exact evt)),(q.up (fun x=>x.elim)).less (by omega)⟩
  case round=>
   clear q
   obtain⟨vs,j,kj,aj,hgk,hF,hC0,V,HM,q⟩:=hrel
   have HC:Hid (kj=0→(fun ks=>∀x∈ks,tyK x) (vs.map labOf)):=hC0
   clear hC0
   have hj:=q.st.rd.lt
   have hposJ:(0:Int)≤(t.pos j:Int)∧(t.pos j:Int)≤7000:=by have:=h.good.posb j;omega
   have HG:Hid (gk=ml t j kj):=hgk
   clear hgk
   obtain⟨ao2,cp2,rfl⟩:=q.shape
   cases hk0:(kj==0)
   ·go_wp2_with fail
    refine q.lf ok21b ?_
    clear q
    intro w3 q
    go_wp2_with fail
    go_ret
    exact Mf.post (d:=0) (q.up (g':=True) (fun _ e=>absurd e (by simpa using hk0))) (fun _=>trivial) hF.2 (fun e=>absurd e (by simpa using hk0)) (by omega) (HM.out _ (EvL.stop (by unfold gRowB;exact evt)))
   ·obtain rfl:kj=0:=by simpa using hk0
    have hb1:Hid (i≤j∧k=0):=⟨q.le,q.ok rfl⟩
    replace HC:Hid ((fun ks=>∀x∈ks,tyK x) (vs.map labOf)):=HC.out rfl
    have HJ:Hid (∀i' k',j≤i'→Bd N t i' k' 3):=fun i' k' h1=>HN.out.down (Nat.le_trans q.le h1) (fun _=>q.ok rfl) (by decide)
    have hFl:vs.length≤6001:=by have:=hF.1 rfl;have:=h.good.few;omega
    replace q:Mf 3 w rb tb cap t j 0 False (16*((j:Int) - (i:Int))+(0)) wr j 0 aj [] [] (.slice ao2 vs.length cp2) vs [] V:=q.rebase.less (by omega)
    go_wp2_with fail
    refine q.lf ok21b ?_
    clear q
    intro w4 q
    go_wp2_with fail
    refine q.nd (hX · (HJ.out _ _ q.le)) ?_
    clear q
    intro w5 x5 i5 k5 a5 y5 hc5 ok5 m5 q
    go_wp2_with (at_builtin;refine q.ap (sz w5) (Nat.le_trans hFl (by decide)) ?_;clear q;intro w6 ao6 cp6 q)
    go_wp2_with fail
    refine q.et (eat42 · _) ?_
    clear q
    intro w7 b7 i7 hE7 m7 q
    go_wp2_with fail
    ·go_wp2_with fail
     go_ret
     exact Mf.post (d:=0) ((q.unbase (i':=i) (k':=k) (g':=False) (s':= -8) hb1.out.1 (fun _=>hb1.out.2) (fun x=>x.elim) (by omega)).up (g':=True) (fun _ e=>Nat.lt_of_le_of_lt hb1.out.1 (q.go trivial e))) (fun _=>trivial) (by have h1:=hF.1 rfl;have h2:=h.good.few;simp only[List.length_append,List.length_cons,List.length_nil];omega) (fun e=>by rw[List.map_append];exact all_snoc HC.out (hc5 e)) (by omega) (HM.out _ (EvL.stop (by unfold gRowB;exact evt)))
    ·go_wp2_with fail
     refine q.wn (want39F · _) ?_
     clear q
     intro w8 i8 k8 a8 ok8 m8 q
     go_wp2_with fail
     go_roundg (ml t i8 k8)
     case measure=>rw[HG.out];exact ml_lt hj q.le (q.go trivial)
     case rel=>exact⟨(vs++[x5.t]),i8,k8,a8,rfl,Few.snoc (t:=t) hF rfl hj h.good (q.go trivial),(fun e=>by rw[List.map_append];exact all_snoc HC.out (hc5 (ok8.out e))),_,(fun r hr=>HM.out r (EvL.on (by unfold gRowB;exact evt) hr)),q.unbase (s':=0) hb1.out.1 (fun _=>hb1.out.2) (fun x=>x.elim) (by omega)⟩
end Go.Proofs.YtdplogkmkgekdaaGreatDoor
namespace Go.Proofs.YtdplogkmkgekdaaGreatDoor
open Go.RowKit
theorem ref_stepF {N:Nat} (hT:tyF 3 N):refF 3 (N+1):=by
 intro w rb tb cap i t k a h hk hlt hN
 have HB:Hid (∀i' k' r',(k'=0→i<i')→r'<64→Bd N t i' k' r'):=hN.any2 hk h.lt
 cases hd:isB t i k 0 ⟨#[38,38]⟩<;>cases hq:kindB t (i+1) k 0 4
 ·exact refFsn hT lifeF h hlt HB hd hq
 ·exact refFsl hT lifeF h hlt HB hd hq
 ·exact refFdn hT lifeF h hlt HB hd hq
 ·exact refFdl hT lifeF h hlt HB hd hq
theorem typ_stepF {N:Nat} (hT:tyF 3 N) (hTs:tysF 3 N) (hR:refF 3 N) (hA:argsF 3 N):tyF 3 (N+1):=by
 intro w rb tb cap i t k a h hN
 suffices hh:Calls Tryz.prog 169 #[.pointer (some ⟨rb,0,none⟩)] w (NodeF 3 w rb tb cap t i k a True 8 tyK (fun n=>gTyp t (gG t n 0) n)) from hh.mono (fun _ _ p=>p.up (fun n=>rfl))
 cases h1:isB t i k 0 ⟨#[105,110,116]⟩
 ·cases h2:isB t i k 0 ⟨#[98,111,111,108]⟩
  ·cases h3:isB t i k 0 ⟨#[40]⟩
   ·cases h4:isB t i k 0 ⟨#[38]⟩
    ·cases h5:isB t i k 0 ⟨#[38,38]⟩
     ·cases h6:isB t i k 0 ⟨#[102,110]⟩
      ·exact typF_path hA h hN h1 h2 h3 h4 h5 h6
      ·cases h7:kindB t (i+1) k 0 4
       ·exact typF_fn hTs hT lifeF h hN h1 h2 h3 h4 h5 h6 h7
       ·exact typF_fnL hTs hT lifeF h hN h1 h2 h3 h4 h5 h6 h7
     ·exact typF_ref2 hR h hN h1 h2 h3 h4 h5
    ·exact typF_ref hR h hN h1 h2 h3 h4
   ·exact typF_tup hTs h hN h1 h2 h3
  ·exact typF_bool h hN h1 h2
 ·exact typF_int h hN h1
theorem types_allF:(N:Nat)→tyF 3 N∧tysF 3 N∧refF 3 N∧argsF 3 N
 |0=>⟨fun _ hN=>absurd hN.2 (by decide),fun _ hN=>absurd hN.2 (by decide),fun _ _ _ hN=>absurd hN.2 (by decide),fun _ hN=>absurd hN.2 (by decide)⟩
 |N+1=>
  let⟨hT,hTs,hR,hA⟩:=types_allF N
  ⟨typ_stepF hT hTs hR hA,typesF hT,ref_stepF hT,argsF_ hT lifeF⟩
theorem typ_anyF (N:Nat):tyF 1 N:=fun h hN=>((types_allF N).1 h hN).mono (fun _ _ p=>p.le)
theorem lifeF1:noF 1 204 True 8 (fun x=>x=19) (fun t _=>gLife t):=fun h=>(lifeF h).mono (fun _ _ p=>p.le)
end Go.Proofs.YtdplogkmkgekdaaGreatDoor
namespace Go.Proofs.YtdplogkmkgekdaaGreatDoor
open Go.RowKit
section
variable {wt:Nat} {w W w':World} {rb tb cap i j:Nat} {t:Tk} {k kj aj:Int} {g:Prop} {s:Int} {L:List (Nat × Array Value)} {T:List (List Value)} {kv:Value} {vs:List (List Value)} {X V:List (List Nr)}
theorem Mf.shapeT {ao:Option Addr} {cp:Nat} (q:Mf wt w rb tb cap t i k g s W j kj aj L T (.slice ao vs.length cp) vs X V) (h:1≤vs.length):∃gb,ao=some ⟨gb,0,none⟩:=q.z.shapeT h
theorem Mf.swapL {a b:Nat × Array Value} (q:Mf wt w rb tb cap t i k g s W j kj aj (a::b::L) T kv vs X V):Mf wt w rb tb cap t i k g s W j kj aj (b::a::L) T kv vs X V:=⟨q.z.swapL,q.fT,q.fv⟩
theorem Mf.park {gb cp:Nat} (q:Mf wt w rb tb cap t i k g s W j kj aj L T (.slice (some ⟨gb,0,none⟩) vs.length cp) vs X V):∃c,Rest c vs cp∧Mf wt w rb tb cap t i k g s W j kj aj ((gb,c)::L) (vs++T) (.slice none 0 0) [] (V++X) []:=by
 obtain⟨c,h1,h2⟩:=q.z.park
 exact⟨c,h1,h2,q.fv.app q.fT,Fl.nil⟩
theorem Mf.unpark {gb cp:Nat} {c:Array Value} (hR:Rest c vs cp) (q:Mf wt w rb tb cap t i k g s W j kj aj ((gb,c)::L) (vs++T) (.slice none 0 0) [] (V++X) []) (hV:V.length=vs.length):Mf wt w rb tb cap t i k g s W j kj aj L T (.slice (some ⟨gb,0,none⟩) vs.length cp) vs X V:=
 ⟨Mz.unpark hR q.z,(q.fT.split hV).2,(q.fT.split hV).1⟩
theorem Mf.unrot {x:List Value} {y:List Nr} (q:Mf wt w rb tb cap t i k g s W j kj aj L (x::([]++(vs++[]))) nl [] (y::([]++(V++[]))) []):Mf wt w rb tb cap t i k g s W j kj aj L (vs++[x]) nl [] (V++[y]) []:=
 ⟨q.z.sub (T':=vs++[x]) (fun x hx=>by simp only[List.mem_append,List.mem_cons,List.not_mem_nil,or_false,List.nil_append,List.append_nil] at hx⊢;exact hx.symm) (fun f W=>by simp only[tot_append,tot_cons,tot_nil];omega),by
  have h1:=q.fT.head
  have h2:Fl W vs V:=by have:=q.fT.tail;simpa using this
  exact h2.app h1,q.fv⟩
theorem Mf.nodeOf (q:Mf wt w rb tb cap t i k g s W j kj aj L T kv vs X V) {must:Prop} {i':Nat} {k' a':Int} (hx:Nx W rb tb cap t j kj must w' i' k' a') {kind pos n m:Int} {name:ByteArray} {kv':Value} {vs':List (List Value)} {F:List (List Nr)} (hn:NodeIn W.heap.size (k'=0) w' (nodeC kind pos n m name kv').toList) (hK:Kids W.heap.size (k'=0) w' kv' vs') {d:Int} (hz:k'=0→∀f,tot wt f w' vs'+d≤16*((i':Int) - (j:Int))) (hF:Fl w' vs' F):Mf wt w rb tb cap t i k g (s - (d - (wt:Int))) w' i' k' a' L ((nodeC kind pos n m name kv').toList::T) kv vs (Go.Proofs.YtdplogkmkgekdaaGreatDoor.nd kind pos n m name F::X) V:=by
 obtain⟨hr,h,ha⟩:=hK
 exact⟨q.z.nodeOf hx hn ⟨hr,h,ha⟩ hz,(Fl.node hr ha hF).cons (q.same_kp hx.kp).1,(q.same_kp hx.kp).2⟩
end
section
variable {w W w':World} {rb tb cap i j:Nat} {t:Tk} {k kj aj:Int} {g:Prop} {s:Int} {L:List (Nat × Array Value)} {T:List (List Value)} {kv:Value} {vs:List (List Value)} {X V:List (List Nr)} {us:List (List Value)} {U:List (List Nr)}
theorem Mf.list2 (q:Mf 1 w rb tb cap t i k g s W j kj aj L T (.slice none 0 0) [] X V) {must:Prop} {i':Nat} {k' a':Int} (hx:Nx W rb tb cap t j kj must w' i' k' a') {kv':Value} {vs':List (List Value)} (hK:Kids W.heap.size (k'=0) w' kv' vs') (hz:k'=0→∀f,tot 3 f w' vs'+0≤16*((i':Int) - (j:Int))) {F:List (List Nr)} (hF:Fl w' vs' F):Mf 1 w rb tb cap t i k g (s - vs'.length) w' i' k' a' L (vs'++T) kv' vs' (F++X) F:=
 ⟨q.z.list2 hx hK hz,hF.app (q.same_kp hx.kp).1,hF⟩
theorem Mf.take1 {idx:Nat} {x:List Value} (q:Mf 1 w rb tb cap t i k g s W j kj aj L (us++(us.drop idx++T)) kv vs (U++(U.drop idx++X)) V) (hU:U.length=us.length) (h:us[idx]? =some x):∃y,U[idx]? =some y∧Mf 1 w rb tb cap t i k g s W j kj aj L ([x]++(us++(us.drop (idx+1)++T))) kv vs ([y]++(U++(U.drop (idx+1)++X))) V:=by
 obtain⟨h1,h2⟩:=List.getElem?_eq_some_iff.1 h
 have h3:idx<U.length:=by omega
 have e1:us.drop idx=x::us.drop (idx+1):=by rw[List.drop_eq_getElem_cons h1,h2]
 have e2:U.drop idx=U[idx]::U.drop (idx+1):=List.drop_eq_getElem_cons h3
 have hs:=q.fT.split hU
 rw[e1,e2] at hs
 exact⟨U[idx],List.getElem?_eq_getElem h3,q.z.take1 h,(Fl.head hs.2).app (hs.1.app hs.2.tail),q.fv⟩
theorem Mf.forget {idx:Nat} (q:Mf 1 w rb tb cap t i k g s W j kj aj L (us++(us.drop idx++T)) kv vs (U++(U.drop idx++X)) V) (hU:U.length=us.length):Mf 1 w rb tb cap t i k g s W j kj aj L T kv vs X V:=
 ⟨q.z.forget,((q.fT.split hU).2.split (by simp[hU])).2,q.fv⟩
def FD (y:List Nr):List Nr:=nd 5 (match y with|[]=>0|z::_=>z.p) 0 0 E0 [y]
theorem FD_of {w:World} {kd p n m:Int} {s:ByteArray} {v:Value} {y:List Nr} (hy:Fl w [(nodeC kd p n m s v).toList] [y]):nd 5 p 0 0 E0 [y]=FD y:=congrArg (fun z=>nd 5 z 0 0 E0 [y]) (flat_name hy).2.symm
theorem FD_take {U:List (List Nr)} {idx:Nat} {y:List Nr} (h:U[idx]? =some y):(U.take idx).map FD++[FD y]=(U.take (idx+1)).map FD:=by rw[List.take_add_one,h,List.map_append];rfl
def HeadF (w:World) (rb tb cap:Nat) (t:Tk) (i:Nat) (k a:Int) (m:Nat→GP (Int × ByteArray × List (List Nr) × Int)) (e:Ending) (w':World):Prop:=
 ∃(pos n:Int) (name:ByteArray) (ao:Option Addr) (cp:Nat) (vs:List (List Value)) (i':Nat) (k' a':Int),e=.returned (.agg (nodeC 8 pos n 0 name (.slice ao vs.length cp)))∧Nx w rb tb cap t i k True w' i' k' a'∧Kids w.heap.size (k'=0) w' (.slice ao vs.length cp) vs∧vs.length≤6010∧name.size≤20000∧(0≤pos∧pos≤7000)∧
  (k'=0→∃ps x,vs.map labOf=9::(ps++[x])∧(ps.length:Int)=n∧(∀p∈ps,p=12)∧tyK x)∧(k'=0→∀f,tot 1 f w' vs+16≤16*((i':Int) - (i:Int)))∧∃F,Fl w' vs F∧Ev m ⟨i,k,a⟩ ((pos,name,F,n),⟨i',k',a'⟩)
theorem HeadF.node {a:Int} {m:Nat→GP (Int × ByteArray × List (List Nr) × Int)} {m':Nat→GP (List Nr)} {e:Ending} (hm:∀{s r},Ev m s r→Ev m' s (nd 8 r.1.1 r.1.2.2.2 0 r.1.2.1 r.1.2.2.1,r.2)) (h:HeadF w rb tb cap t i k a m e w'):NodeF 1 w rb tb cap t i k a True 8 (fun x=>x=8) m' e w':=by
 obtain⟨pos,n,name,ao,cp,vs,i',k',a',rfl,hx,hK,hl,hn,hp,hC,hz,F,hF,he⟩:=h
 have hnd:Fl w' [(nodeC 8 pos n 0 name (.slice ao vs.length cp)).toList] [nd 8 pos n 0 name F]:=by
  obtain⟨hr,h,ha⟩:=hK
  exact Fl.node hr ha hF
 refine⟨8,pos,n,0,name,ao,vs.length,cp,i',k',a',rfl,hx,hK.node (by omega) hn hp (fun e=>?_),fun e=>?_,fun e f=>?_,_,hnd,hm he⟩
 ·obtain⟨ps,x,h1,h2,h3,h4⟩:=hC e
  exact Gr.of_fn ⟨.inl rfl,ps,x,[],by rw[h1],h2,h3,h4,by simp,by simp⟩
 ·obtain⟨ps,x,h1,h2,h3,h4⟩:=hC e
  have h5:vs.length=ps.length+2:=by have:=congrArg List.length h1;simpa using this
  show lab 8 n 0 name (lenOf (.slice ao vs.length cp))=8
  unfold lab lenOf
  rw[if_pos rfl,if_neg (show ¬(vs.length:Int)=n+3 by omega),if_pos rfl]
 ·obtain⟨hr,h,ha⟩:=hK
  cases f with
  |zero=>
   have h0:=hz e 0
   have h2:nsy 1 0 w' (nodeC 8 pos n 0 name (.slice ao vs.length cp)).toList=0:=rfl
   have h3:=tot_nonneg 1 0 w' vs
   rw[h2]
   omega
  |succ f=>
   have e1:nsy 1 (f+1) w' (nodeC 8 pos n 0 name (.slice ao vs.length cp)).toList=1+(vs.map (nsy 1 f w')).sum:=nsy_eq hr ha
   have e2:=hz e f
   have e3:tot 1 f w' vs=(((vs.map (nsy 1 f w')).sum:Nat):Int):=rfl
   rw[e1]
   omega
theorem Mf.ret_head {fn:Func} {r:Nat} (hf:fn.results=#[.cell r 28]) {act:Act} (hd:act.defers=[]) (ht:act.tmps.getD r undef=.pointer (some ⟨w.heap.size,0,none⟩)) {ao:Option Addr} {cp len:Nat} (hlen:len=vs.length) (q:Mf 1 w rb tb cap t i k True s W j kj aj L T (.slice ao len cp) vs X V) (N:Nat) (hz:L[N]? =some (w.heap.size,zeroC)) {pos n:Int} {name:ByteArray} (hl:vs.length≤6010) (hn:name.size≤20000) (hp:0≤pos∧pos≤7000)
 (hC:kj=0→∃ps x,vs.map labOf=9::(ps++[x])∧(ps.length:Int)=n∧(∀p∈ps,p=12)∧tyK x) (hs:s+16≤0) {a:Int} {m:Nat→GP (Int × ByteArray × List (List Nr) × Int)} (hm:Ev m ⟨i,k,a⟩ ((pos,name,V,n),⟨j,kj,aj⟩)):
 bodyPost Tryz.prog fn (HeadF w rb tb cap t i k a m) .ret act (Go.Proofs.YtdplogkmkgekdaaGreatDoor.set11 W w.heap.size (.int .i64 8) (.int .i64 pos) (.int .i64 n) (.int .i64 0) (.string name) (.slice ao len cp) (.int .i64 0) (.int .i64 0) (.slice none 0 0) (.slice none 0 0) (.slice none 0 0)):=by
 subst hlen
 have q1:=q.put11 N hz (.int .i64 8) (.int .i64 pos) (.int .i64 n) (.int .i64 0) (.string name) (.slice ao vs.length cp) (.int .i64 0) (.int .i64 0) (.slice none 0 0) (.slice none 0 0) (.slice none 0 0)
 have hB:Blk _ w.heap.size _:=(q1.z.mid.blk N (w.heap.size,_) (by rw[List.getElem?_set,if_pos rfl,if_pos (List.getElem?_eq_some_iff.1 hz).1])).2
 refine bodyPost_ret (results_node hf ht hB) hd ⟨pos,n,name,ao,cp,vs,j,kj,aj,rfl,⟨q1.st.rd,q1.st.kp,q1.le,q1.ok,q1.go⟩,q1.z.mid.kids,hl,hn,hp,hC,fun e f=>?_,V,q1.fv,hm⟩
 have h1:=q1.z.sz e f
 have h2:=tot_nonneg 1 f (set11 W w.heap.size (.int .i64 8) (.int .i64 pos) (.int .i64 n) (.int .i64 0) (.string name) (.slice ao vs.length cp) (.int .i64 0) (.int .i64 0) (.slice none 0 0) (.slice none 0 0) (.slice none 0 0)) T
 omega
end
end Go.Proofs.YtdplogkmkgekdaaGreatDoor
namespace Go.Proofs.YtdplogkmkgekdaaGreatDoor
open Go.RowKit
theorem exprF {N:Nat} (hA:exF 211 17 N (fun t n=>gOrE t (gG t n 2) n)) (hE:exF 176 18 N (fun t n=>gG t n 1)):exF 176 18 (N+1) (fun t n=>gExpr t (gG t n 1) (gG t n 2) n):=by
 intro w rb tb cap i t k a h hN
 have hl:=h.l
 have HN:Hid (Bd (N+1) t i k 18):=hN
 clear hN
 have hposI:(0:Int)≤(t.pos i:Int)∧(t.pos i:Int)≤7000:=by have:=h.good.posb i;omega
 go_enter Tryz.func176,Tryz.ntmps176
 have q:=Mf.start (wt:=1) h
 go_wp2_with fail
 replace q:=q.ne' (sz w) (zeroC)
 refine q.nd (hA · (HN.out.down q.le q.ok (by decide))) ?_
 clear q
 intro w1 x1 i1 k1 a1 y1 hc1 ok1 m1 q
 have F:=q.f1
 have hposA:(0:Int)≤(t.pos i1:Int)∧(t.pos i1:Int)≤7000:=by have:=h.good.posb i1;omega
 go_wp2_with fail
 refine(q.ne' (sz w1) x1.a).lf (is41 · 0 (by decide) _) ?_
 clear q F
 intro w2 q
 have F:=q.f2
 go_wp2_with fail
 ·have HB:Hid (∀i' k' r',(k'=0→i<i')→r'<64→Bd N t i' k' r'):=HN.out.any2 (q.ok (isB_lt h.good q.st.rd.lt ‹_›).1) h.lt
  go_wp2_with fail
  refine q.lf (node20 · 32) ?_
  clear q F
  intro w3 q
  have F:=q.f2
  go_wp2_with fail
  refine(q.ne' (sz w3) (nk 32 (t.pos i1) nl)).wn (want39F · _) ?_
  clear q F
  intro w4 i4 k4 a4 ok4 m4 q
  have F:=q.f3
  go_wp2_with fail
  go_region_law (replace q:=q.drew;go_simp;refine q.nd (hE · (q.bd HB.out (by decide))) ?_;clear q F;intro w5 x5 i5 k5 a5 y5 hc5 ok5 m5 q;have F:=q.f3)
  all_goals
   go_wp2_with fail
   go_light
   refine(((q.swap).p05 (sl (sz w5) 2)).l2 (sz w5) 32 (t.pos i1) 0 0 ⟨#[]⟩ hposA (hG:=fun e=>Gr.of_two (by decide) ⟨_,_,rfl,hc1 (ok4.out (ok5.out e)),hc5 e⟩)).rt Tryz.results176 2 (by unfold gExpr;exact evt) ?_
   simp[set11,World.setCell_alloc_past,F,Nat.lt_succ_of_lt]
 ·go_wp2_with fail
  go_light
  exact q.rt Tryz.results176 1 (by unfold gExpr;exact evt) (hC:=hc1)
end Go.Proofs.YtdplogkmkgekdaaGreatDoor
namespace Go.Proofs.YtdplogkmkgekdaaGreatDoor
open Go.RowKit
theorem orF {N:Nat} (hA:exF 229 16 N (fun t n=>gAndE t (gG t n 2) n)):exF 211 17 (N+1) (fun t n=>gOrE t (gG t n 2) n):=by
 intro w rb tb cap i t k a h hN
 have hl:=h.l
 have HN:Hid (Bd (N+1) t i k 17):=hN
 clear hN
 have hposI:(0:Int)≤(t.pos i:Int)∧(t.pos i:Int)≤7000:=by have:=h.good.posb i;omega
 go_enter Tryz.func211,Tryz.ntmps211
 have q:=Mf.start (wt:=1) h
 go_wp2_with fail
 replace q:=q.ne' (sz w) (zeroC)
 refine q.nd (hA · (HN.out.down q.le q.ok (by decide))) ?_
 clear q
 intro w1 x1 i1 k1 a1 y1 hc1 ok1 m1 q
 have F:=q.f1
 go_wp2_with fail
 go_loopg [4] (ml t i1 k1) (fun g _ wr=>∃(xe:Nf) (j:Nat) (kj aj:Int),g=ml t j kj∧Hid (kj=0→noK (labOf xe.t))∧∃(ye:List Nr),Hid (∀r,EvL (fun n=>gChainB t 31 ⟨#[124,124]⟩ (gAndE t (gG t n 2) n)) ye ⟨j,kj,aj⟩ r→Ev (fun n=>gOrE t (gG t n 2) n) ⟨i,k,a⟩ r)∧Mf 1 w rb tb cap t i k True (-8) wr j kj aj [(sz w1,xe.a),(sz w,zeroC)] [xe.t] nl [] [ye] [])
 case atStart=>exact⟨x1,i1,k1,a1,rfl,hc1,_,(fun r hr=>(by unfold gOrE;unfold gChain;exact evt)),(q.ne' (sz w1) x1.a).less (by omega)⟩
 case round=>
  clear F q
  obtain⟨xe,j,kj,aj,hgk,HX,ye,HM,q⟩:=hrel
  have hj:=q.st.rd.lt
  have hposJ:(0:Int)≤(t.pos j:Int)∧(t.pos j:Int)≤7000:=by have:=h.good.posb j;omega
  have HG:Hid (gk=ml t j kj):=hgk
  clear hgk
  have F:=q.f2
  cases hk0:(kj==0)
  ·go_wp2_with fail
   refine q.lf ok21b ?_
   clear q F
   intro w2 q
   have F:=q.f2
   go_wp2_with fail
   go_light
   exact q.rt Tryz.results211 1 (HM.out _ (EvL.stop (by unfold gChainB;exact evt))) (hC:=HX.out)
  ·obtain rfl:kj=0:=by simpa using hk0
   have HX0:Hid _:=HX.out rfl
   clear HX
   have hb1:Hid (i≤j∧k=0∧i<j):=⟨q.le,q.ok rfl,q.go trivial rfl⟩
   have HJ:Hid (∀i' k' r',j≤i'→r'<64→Bd N t i' k' r'):=fun i' k' r' h1 h2=>HN.out.any2 hb1.out.2.1 h.lt _ _ _ (fun _=>Nat.lt_of_lt_of_le hb1.out.2.2 h1) h2
   replace q:=q.rebase
   go_wp2_with fail
   refine q.lf ok21b ?_
   clear q F
   intro w3 q
   have F:=q.f2
   go_wp2_with fail
   refine q.lf (is41 · 0 (by decide) _) ?_
   clear q F
   intro w4 q
   have F:=q.f2
   go_wp2_with fail
   ·go_wp2_with fail
    refine q.lf (node20 · 31) ?_
    clear q F
    intro w5 q
    have F:=q.f2
    go_wp2_with fail
    refine(q.ne' (sz w5) (nk 31 (t.pos j) nl)).wn (want39F · _) ?_
    clear q F
    intro w6 i6 k6 a6 ok6 m6 q
    have F:=q.f3
    go_wp2_with fail
    go_region_law (replace q:=q.drew;go_simp;refine q.nd (hA · (HJ.out _ _ _ q.le (by decide))) ?_;clear q F;intro w7 x7 i7 k7 a7 y7 hc7 ok7 m7 q;have F:=q.f3)
    all_goals
     go_wp2_with fail
     go_roundg (ml t i7 k7)
     case measure=>rw[HG.out];exact ml_lt hj ((((q.swap).p05 (sl (sz w7) 2)).pA1 31 (t.pos j) 0 0 ⟨#[]⟩ (sl (sz w7) 2)).l2 (sz w7) 31 (t.pos j) 0 0 ⟨#[]⟩ hposJ (hG:=fun e=>Gr.of_two (by decide) ⟨_,_,rfl,HX0.out,hc7 e⟩)).pop.le (((((q.swap).p05 (sl (sz w7) 2)).pA1 31 (t.pos j) 0 0 ⟨#[]⟩ (sl (sz w7) 2)).l2 (sz w7) 31 (t.pos j) 0 0 ⟨#[]⟩ hposJ (hG:=fun e=>Gr.of_two (by decide) ⟨_,_,rfl,HX0.out,hc7 e⟩)).pop.go trivial)
     case rel=>exact⟨⟨31,(t.pos j),0,0,⟨#[]⟩,(some ⟨(sz w7),0,none⟩),2,2⟩,i7,k7,a7,rfl,(fun _=>noK_lab (ki:=31) (by unfold noK;decide)),_,(fun r hr=>HM.out r (EvL.on (by unfold gChainB;exact evt) hr)),((((q.swap).p05 (sl (sz w7) 2)).pA1 31 (t.pos j) 0 0 ⟨#[]⟩ (sl (sz w7) 2)).l2 (sz w7) 31 (t.pos j) 0 0 ⟨#[]⟩ hposJ (hG:=fun e=>Gr.of_two (by decide) ⟨_,_,rfl,HX0.out,hc7 e⟩)).pop.unbase (s':= -8) (g':=True) hb1.out.1 (fun _=>hb1.out.2.1) (fun _ _=>hb1.out.2.2) (by omega)⟩
   ·go_wp2_with fail
    go_light
    exact(q.unbase (s':= -8) (g':=True) hb1.out.1 (fun _=>hb1.out.2.1) (fun _ _=>hb1.out.2.2) (by omega)).rt Tryz.results211 1 (HM.out _ (EvL.stop (by unfold gChainB;exact evt))) (hC:=fun _=>HX0.out)
end Go.Proofs.YtdplogkmkgekdaaGreatDoor
