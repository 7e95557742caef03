/- The head of a function. -/
import Derived.Test.YtdplogkmkgekdaaGreatDoorGmc
import Derived.Test.YtdplogkmkgekdaaGreatDoorFBounds
import Derived.Test.YtdplogkmkgekdaaGreatDoorFRefdn
import Derived.Test.YtdplogkmkgekdaaGreatDoorFOr
set_option linter.all false
set_option maxRecDepth 100000
set_option maxHeartbeats 4000000
namespace Go.Proofs.YtdplogkmkgekdaaGreatDoor
open Go.RowKit
theorem gensF_false (hLi:noF 1 204 True 8 (fun x=>x=19) (fun t _=>gLife t)) {w:World} {rb tb cap i:Nat} {t:Tk} {k a:Int} (h:Rd w rb tb cap t i k a):Calls Tryz.prog 167 #[.pointer (some ⟨rb,0,none⟩),.bool false] w (NodeF 1 w rb tb cap t i k a False (-1) (fun x=>x=9) (fun n=>gGens t false n)):=by
 have hl:=h.l
 have hposI:(0:Int)≤(t.pos i:Int)∧(t.pos i:Int)≤7000:=by have:=h.good.posb i;omega
 go_enter Tryz.func167,Tryz.ntmps167
 have hfd4:=fld46_4
 have q:=Mf.start (wt:=1) h
 go_wp2_with fail
 refine(q.ne' (sz w) (zeroC)).lf (node20 · 9) ?_
 clear q
 intro w1 q
 have F:=q.f1
 go_wp2_with fail
 refine(q.ne' (sz w1) (nk 9 (t.pos i) nl)).et (eat42 · _) ?_
 clear q F
 intro w2 b2 i2 hE2 m2 q
 have F:=q.f2
 go_wp2_with fail
 ·go_wp2_with fail
  go_light
  exact Mf.retb (C:=fun x=>x=9) (d:= -1) Tryz.results167 rfl rfl (q.lk 9 (t.pos i) 0 0 ⟨#[]⟩ hposI (by decide) (fun _=>Gr.of_gens (fun x hx=>by cases hx))) 1 rfl (fun _=>rfl) (by omega) rfl (by unfold gGens;exact evt)
 ·obtain rfl:b2=true:=by have hb:= ‹(!b2)=false›;simpa using hb
  have hgo2:Hid (i<i2):=by have:=(hE2.yes rfl).1;show i<i2;omega
  go_wp2_with fail
  go_loopg [6] (ml t i2 k) (fun g u wr=>∃(v:Value) (vs:List (List Value)) (tyb:Bool) (j:Nat) (kj aj:Int),g=ml t j kj∧Few 0 vs j kj∧(u=.bool tyb∧(kj=0→∀x∈vs.map labOf,x=10∨x=11))∧∃(V:List (List Nr)),Hid (∀r,EvL (fun n=>gGensB t false n) (V,tyb) ⟨j,kj,aj⟩ r→Ev (fun n=>gGens t false n) ⟨i,k,a⟩ (nd 9 (t.pos i:Int) 0 0 E0 r.1.1,r.2))∧Mf 1 w rb tb cap t i k True (0) wr j kj aj [(sz w1,nk 9 (t.pos i) v),(sz w,zeroC)] [] v vs [] V)
  case atStart=>exact⟨nl,[],false,i2,k,a,rfl,⟨fun _=>by simp,by simp⟩,⟨rfl,fun _ x hx=>by cases hx⟩,_,(fun r hr=>(by unfold gGens;exact evt)),((q.up (g':=True) (fun _ _=>hgo2.out)).less (by omega))⟩
  case round=>
   clear F q
   obtain⟨v,vs,tyb,j,kj,aj,hgk,hF,⟨rfl,HC⟩,V,HM,q⟩:=hrel
   have hj:=q.st.rd.lt
   have hposJ:(0:Int)≤(t.pos j:Int)∧(t.pos j:Int)≤7000:=by have:=h.good.posb j;omega
   have HG:Hid (gk=ml t j kj):=hgk
   clear hgk
   obtain⟨ao3,cp3,rfl⟩:=q.shape
   have F:=q.f2
   cases hk0:(kj==0)
   ·go_wp2_with fail
    refine q.lf ok21b ?_
    clear q F
    intro w4 q
    have F:=q.f2
    go_wp2_with fail
    go_light
    exact Mf.retb (C:=fun x=>x=9) (d:= -1) Tryz.results167 rfl rfl ((q.fk 9 (t.pos i) (Nat.le_trans hF.2 (by decide)) hposI (fun e=>absurd e (by simpa using hk0))).up (g':=False) (fun x=>x.elim)) 1 rfl (fun _=>rfl) (by omega) rfl (HM.out ((_,_),_) (EvL.stop (by unfold gGensB;exact evt)))
   ·obtain rfl:kj=0:=by simpa using hk0
    have hb1:Hid (i≤j∧k=0∧i<j):=⟨q.le,q.ok rfl,q.go trivial rfl⟩
    replace HC:Hid (∀x∈vs.map labOf,x=10∨x=11):=HC rfl
    have hFl:vs.length≤6001:=by have:=hF.1 rfl;have:=h.good.few;omega
    replace q:=q.rebase
    go_wp2_with fail
    refine q.lf ok21b ?_
    clear q F
    intro w5 q
    have F:=q.f2
    go_wp2_with fail
    refine q.lf (node20 · 10) ?_
    clear q F
    intro w6 q
    have F:=q.f2
    cases hq:kindB t j 0 0 4
    ·go_wp2_with fail
     refine(q.ne' (sz w6) (nk 10 (t.pos j) nl)).lf (kind22 · 0 (by decide) 4) ?_
     clear q F
     intro w7 q
     have F:=q.f3
     go_wp2_with fail
     refine(q.p00 11).nm name40F ?_
     clear q F
     intro w8 s8 i8 k8 a8 hs8 ho8 ok8 m8 q
     have F:=q.f3
     go_wp2_with (at_builtin;refine((q.p04 s8).lk 11 (t.pos j) 0 0 s8 hposJ (Nat.le_trans hs8 (by decide)) (fun _=>Gr.of_gtype (fun x hx=>by cases hx))).ap (sz w8) (Nat.le_trans hFl (by decide)) ?_;clear q F;intro w9 ao9 cp9 q;have F:=q.f3)
     go_wp2_with fail
     refine(q.p15 (.slice ao9 (vs.length+1) cp9)).et (eat42 · _) ?_
     clear q F
     intro w10 b10 i10 hE10 m10 q
     have F:=q.f3
     go_wp2_with fail
     ·go_wp2_with fail
      go_light
      exact Mf.retb (C:=fun x=>x=9) (d:= -1) Tryz.results167 rfl rfl ((q.fk 9 (t.pos i) (by have:=hFl;simp;omega) hposI (fun e=>Gr.of_gens (hl:=by have:=hFl;simp;omega) ((fun e=>by rw[List.map_append];exact all_snoc HC.out (.inr rfl)) e))).unbase (i':=i) (k':=k) (g':=False) (s':= -14) hb1.out.1 (fun _=>hb1.out.2.1) (fun x=>x.elim) (by omega)) 2 rfl (fun _=>rfl) (by omega) rfl (HM.out ((_,_),_) (EvL.stop (by unfold gGensB;exact evt)))
     ·go_wp2_with fail
      refine q.wn (want39F · _) ?_
      clear q F
      intro w11 i11 k11 a11 ok11 m11 q
      have F:=q.f3
      go_wp2_with fail
      replace q:=q.pop
      go_roundg (ml t i11 k11)
      case measure=>rw[HG.out];exact ml_lt hj q.le (q.go trivial)
      case rel=>exact⟨(.slice ao9 (vs.length+1) cp9),(vs++[(nodeC 11 (t.pos j) 0 0 s8 nl).toList]),true,i11,k11,a11,rfl,Few.snoc (t:=t) hF rfl hj h.good (q.go trivial),⟨rfl,(fun e=>by rw[List.map_append];exact all_snoc HC.out (.inr rfl))⟩,_,(fun r hr=>HM.out r (EvL.on (by unfold gGensB;exact evt) hr)),q.unbase (s':=0) (g':=True) hb1.out.1 (fun _=>hb1.out.2.1) (fun _ _=>hb1.out.2.2) (by omega)⟩
    ·cases tyb
     ·go_wp2_with fail
      refine(q.ne' (sz w6) (nk 10 (t.pos j) nl)).lf (kind22 · 0 (by decide) 4) ?_
      clear q F
      intro w12 q
      have F:=q.f3
      go_wp2_with fail
      refine(hLi q.st.rd).mono ?_
      rintro e w13 ⟨q13,p13,n13,m13,s13,ko13,kl13,kc13,i13,k13,a13,rfl,hx13,hn13,hc13,hz13,y13,hy13,ml13⟩
      have e13:=life_ev hy13 ml13
      have hnm13:=hn13.name
      replace q:=q.nxm hx13
      clear hx13 hn13 hc13 hz13
      replace F:=q.f3
      go_wp2_with (at_builtin;refine((q.p04 s13).lk 10 (t.pos j) 0 0 s13 hposJ hnm13 (fun _=>Gr.of_glife (fun x hx=>by cases hx))).ap (sz w13) (Nat.le_trans hFl (by decide)) ?_;clear q F;intro w14 ao14 cp14 q;have F:=q.f3)
      go_wp2_with fail
      refine(q.p15 (.slice ao14 (vs.length+1) cp14)).et (eat42 · _) ?_
      clear q F
      intro w15 b15 i15 hE15 m15 q
      have F:=q.f3
      go_wp2_with fail
      ·go_wp2_with fail
       go_light
       exact Mf.retb (C:=fun x=>x=9) (d:= -1) Tryz.results167 rfl rfl ((q.fk 9 (t.pos i) (by have:=hFl;simp;omega) hposI (fun e=>Gr.of_gens (hl:=by have:=hFl;simp;omega) ((fun e=>by rw[List.map_append];exact all_snoc HC.out (.inl rfl)) e))).unbase (i':=i) (k':=k) (g':=False) (s':= -14) hb1.out.1 (fun _=>hb1.out.2.1) (fun x=>x.elim) (by omega)) 2 rfl (fun _=>rfl) (by omega) rfl (HM.out ((_,_),_) (EvL.stop (by unfold gGensB;exact evt)))
      ·go_wp2_with fail
       refine q.wn (want39F · _) ?_
       clear q F
       intro w16 i16 k16 a16 ok16 m16 q
       have F:=q.f3
       go_wp2_with fail
       replace q:=q.pop
       go_roundg (ml t i16 k16)
       case measure=>rw[HG.out];exact ml_lt hj q.le (q.go trivial)
       case rel=>exact⟨(.slice ao14 (vs.length+1) cp14),(vs++[(nodeC 10 (t.pos j) 0 0 s13 nl).toList]),false,i16,k16,a16,rfl,Few.snoc (t:=t) hF rfl hj h.good (q.go trivial),⟨rfl,(fun e=>by rw[List.map_append];exact all_snoc HC.out (.inl rfl))⟩,_,(fun r hr=>HM.out r (EvL.on (by unfold gGensB;exact evt) hr)),q.unbase (s':=0) (g':=True) hb1.out.1 (fun _=>hb1.out.2.1) (fun _ _=>hb1.out.2.2) (by omega)⟩
     ·go_wp2_with fail
      refine(q.ne' (sz w6) (nk 10 (t.pos j) nl)).lf (kind22 · 0 (by decide) 4) ?_
      clear q F
      intro w17 q
      have F:=q.f3
      go_wp2_with fail
      refine(q.p00 11).nm name40F ?_
      clear q F
      intro w18 s18 i18 k18 a18 hs18 ho18 ok18 m18 q
      have F:=q.f3
      go_wp2_with (at_builtin;refine((q.p04 s18).lk 11 (t.pos j) 0 0 s18 hposJ (Nat.le_trans hs18 (by decide)) (fun _=>Gr.of_gtype (fun x hx=>by cases hx))).ap (sz w18) (Nat.le_trans hFl (by decide)) ?_;clear q F;intro w19 ao19 cp19 q;have F:=q.f3)
      go_wp2_with fail
      refine(q.p15 (.slice ao19 (vs.length+1) cp19)).et (eat42 · _) ?_
      clear q F
      intro w20 b20 i20 hE20 m20 q
      have F:=q.f3
      go_wp2_with fail
      ·go_wp2_with fail
       go_light
       exact Mf.retb (C:=fun x=>x=9) (d:= -1) Tryz.results167 rfl rfl ((q.fk 9 (t.pos i) (by have:=hFl;simp;omega) hposI (fun e=>Gr.of_gens (hl:=by have:=hFl;simp;omega) ((fun e=>by rw[List.map_append];exact all_snoc HC.out (.inr rfl)) e))).unbase (i':=i) (k':=k) (g':=False) (s':= -14) hb1.out.1 (fun _=>hb1.out.2.1) (fun x=>x.elim) (by omega)) 2 rfl (fun _=>rfl) (by omega) rfl (HM.out ((_,_),_) (EvL.stop (by unfold gGensB;exact evt)))
      ·go_wp2_with fail
       refine q.wn (want39F · _) ?_
       clear q F
       intro w21 i21 k21 a21 ok21 m21 q
       have F:=q.f3
       go_wp2_with fail
       replace q:=q.pop
       go_roundg (ml t i21 k21)
       case measure=>rw[HG.out];exact ml_lt hj q.le (q.go trivial)
       case rel=>exact⟨(.slice ao19 (vs.length+1) cp19),(vs++[(nodeC 11 (t.pos j) 0 0 s18 nl).toList]),true,i21,k21,a21,rfl,Few.snoc (t:=t) hF rfl hj h.good (q.go trivial),⟨rfl,(fun e=>by rw[List.map_append];exact all_snoc HC.out (.inr rfl))⟩,_,(fun r hr=>HM.out r (EvL.on (by unfold gGensB;exact evt) hr)),q.unbase (s':=0) (g':=True) hb1.out.1 (fun _=>hb1.out.2.1) (fun _ _=>hb1.out.2.2) (by omega)⟩
end Go.Proofs.YtdplogkmkgekdaaGreatDoor
namespace Go.Proofs.YtdplogkmkgekdaaGreatDoor
open Go.RowKit
theorem gensF_true (hLi:noF 1 204 True 8 (fun x=>x=19) (fun t _=>gLife t)) (hBo:bndF) {w:World} {rb tb cap i:Nat} {t:Tk} {k a:Int} (h:Rd w rb tb cap t i k a):Calls Tryz.prog 167 #[.pointer (some ⟨rb,0,none⟩),.bool true] w (NodeF 1 w rb tb cap t i k a False (-1) (fun x=>x=9) (fun n=>gGens t true n)):=by
 have hl:=h.l
 have hposI:(0:Int)≤(t.pos i:Int)∧(t.pos i:Int)≤7000:=by have:=h.good.posb i;omega
 go_enter Tryz.func167,Tryz.ntmps167
 have hfd4:=fld46_4
 have q:=Mf.start (wt:=1) h
 go_wp2_with fail
 refine(q.ne' (sz w) (zeroC)).lf (node20 · 9) ?_
 clear q
 intro w1 q
 have F:=q.f1
 go_wp2_with fail
 refine(q.ne' (sz w1) (nk 9 (t.pos i) nl)).et (eat42 · _) ?_
 clear q F
 intro w2 b2 i2 hE2 m2 q
 have F:=q.f2
 go_wp2_with fail
 ·go_wp2_with fail
  go_light
  exact Mf.retb (C:=fun x=>x=9) (d:= -1) Tryz.results167 rfl rfl (q.lk 9 (t.pos i) 0 0 ⟨#[]⟩ hposI (by decide) (fun _=>Gr.of_gens (fun x hx=>by cases hx))) 1 rfl (fun _=>rfl) (by omega) rfl (by unfold gGens;exact evt)
 ·obtain rfl:b2=true:=by have hb:= ‹(!b2)=false›;simpa using hb
  have hgo2:Hid (i<i2):=by have:=(hE2.yes rfl).1;show i<i2;omega
  go_wp2_with fail
  go_loopg [6] (ml t i2 k) (fun g u wr=>∃(v:Value) (vs:List (List Value)) (tyb:Bool) (j:Nat) (kj aj:Int),g=ml t j kj∧Few 0 vs j kj∧(u=.bool tyb∧(kj=0→∀x∈vs.map labOf,x=10∨x=11))∧∃(V:List (List Nr)),Hid (∀r,EvL (fun n=>gGensB t true n) (V,tyb) ⟨j,kj,aj⟩ r→Ev (fun n=>gGens t true n) ⟨i,k,a⟩ (nd 9 (t.pos i:Int) 0 0 E0 r.1.1,r.2))∧Mf 1 w rb tb cap t i k True (0) wr j kj aj [(sz w1,nk 9 (t.pos i) v),(sz w,zeroC)] [] v vs [] V)
  case atStart=>exact⟨nl,[],false,i2,k,a,rfl,⟨fun _=>by simp,by simp⟩,⟨rfl,fun _ x hx=>by cases hx⟩,_,(fun r hr=>(by unfold gGens;exact evt)),((q.up (g':=True) (fun _ _=>hgo2.out)).less (by omega))⟩
  case round=>
   clear F q
   obtain⟨v,vs,tyb,j,kj,aj,hgk,hF,⟨rfl,HC⟩,V,HM,q⟩:=hrel
   have hj:=q.st.rd.lt
   have hposJ:(0:Int)≤(t.pos j:Int)∧(t.pos j:Int)≤7000:=by have:=h.good.posb j;omega
   have HG:Hid (gk=ml t j kj):=hgk
   clear hgk
   obtain⟨ao3,cp3,rfl⟩:=q.shape
   have F:=q.f2
   cases hk0:(kj==0)
   ·go_wp2_with fail
    refine q.lf ok21b ?_
    clear q F
    intro w4 q
    have F:=q.f2
    go_wp2_with fail
    go_light
    exact Mf.retb (C:=fun x=>x=9) (d:= -1) Tryz.results167 rfl rfl ((q.fk 9 (t.pos i) (Nat.le_trans hF.2 (by decide)) hposI (fun e=>absurd e (by simpa using hk0))).up (g':=False) (fun x=>x.elim)) 1 rfl (fun _=>rfl) (by omega) rfl (HM.out ((_,_),_) (EvL.stop (by unfold gGensB;exact evt)))
   ·obtain rfl:kj=0:=by simpa using hk0
    have hb1:Hid (i≤j∧k=0∧i<j):=⟨q.le,q.ok rfl,q.go trivial rfl⟩
    replace HC:Hid (∀x∈vs.map labOf,x=10∨x=11):=HC rfl
    have hFl:vs.length≤6001:=by have:=hF.1 rfl;have:=h.good.few;omega
    replace q:=q.rebase
    go_wp2_with fail
    refine q.lf ok21b ?_
    clear q F
    intro w5 q
    have F:=q.f2
    go_wp2_with fail
    refine q.lf (node20 · 10) ?_
    clear q F
    intro w6 q
    have F:=q.f2
    cases hq:kindB t j 0 0 4
    ·go_wp2_with fail
     refine(q.ne' (sz w6) (nk 10 (t.pos j) nl)).lf (kind22 · 0 (by decide) 4) ?_
     clear q F
     intro w7 q
     have F:=q.f3
     go_wp2_with fail
     refine(q.p00 11).nm name40F ?_
     clear q F
     intro w8 s8 i8 k8 a8 hs8 ho8 ok8 m8 q
     have F:=q.f3
     go_wp2_with fail
     refine(hBo (q.p04 s8).st.rd _).mono ?_
     rintro e w9 ⟨ao9,cp9,vs9,i9,k9,a9,rfl,hx9,hK9,hl9,hP9,hz9,V9,hF9,m9⟩;have hV9:=hF9.len
     have ok9:Hid (k9=0→k8=0):=hx9.ok
     replace q:=(q.p04 s8).nodeOf hx9 (hK9.node (Nat.le_trans hl9 (by decide)) (Nat.le_trans hs8 (by decide)) hposJ (kind:=11) (n:=0) (m:=0) (fun e=>Gr.of_gtype (fun x hx=>(hP9 e x hx).2))) hK9 hz9 hF9
     clear hx9 hK9 hz9
     replace F:=q.f3
     go_wp2_with (at_builtin;refine(q.p05 (.slice ao9 vs9.length cp9)).ap (sz w9) (Nat.le_trans hFl (by decide)) ?_;clear q F;intro w10 ao10 cp10 q;have F:=q.f3)
     go_wp2_with fail
     refine(q.p15 (.slice ao10 (vs.length+1) cp10)).et (eat42 · _) ?_
     clear q F
     intro w11 b11 i11 hE11 m11 q
     have F:=q.f3
     go_wp2_with fail
     ·go_wp2_with fail
      go_light
      exact Mf.retb (C:=fun x=>x=9) (d:= -1) Tryz.results167 rfl rfl ((q.fk 9 (t.pos i) (by have:=hFl;simp;omega) hposI (fun e=>Gr.of_gens (hl:=by have:=hFl;simp;omega) ((fun e=>by rw[List.map_append];exact all_snoc HC.out (.inr rfl)) e))).unbase (i':=i) (k':=k) (g':=False) (s':= -14) hb1.out.1 (fun _=>hb1.out.2.1) (fun x=>x.elim) (by omega)) 2 rfl (fun _=>rfl) (by omega) rfl (HM.out ((_,_),_) (EvL.stop (by unfold gGensB;exact evt)))
     ·go_wp2_with fail
      refine q.wn (want39F · _) ?_
      clear q F
      intro w12 i12 k12 a12 ok12 m12 q
      have F:=q.f3
      go_wp2_with fail
      replace q:=q.pop
      go_roundg (ml t i12 k12)
      case measure=>rw[HG.out];exact ml_lt hj q.le (q.go trivial)
      case rel=>exact⟨(.slice ao10 (vs.length+1) cp10),(vs++[(nodeC 11 (t.pos j) 0 0 s8 (.slice ao9 vs9.length cp9)).toList]),true,i12,k12,a12,rfl,Few.snoc (t:=t) hF rfl hj h.good (q.go trivial),⟨rfl,(fun e=>by rw[List.map_append];exact all_snoc HC.out (.inr rfl))⟩,_,(fun r hr=>HM.out r (EvL.on (by unfold gGensB;exact evt) hr)),q.unbase (s':=0) (g':=True) hb1.out.1 (fun _=>hb1.out.2.1) (fun _ _=>hb1.out.2.2) (by omega)⟩
    ·cases tyb
     ·go_wp2_with fail
      refine(q.ne' (sz w6) (nk 10 (t.pos j) nl)).lf (kind22 · 0 (by decide) 4) ?_
      clear q F
      intro w13 q
      have F:=q.f3
      go_wp2_with fail
      refine(hLi q.st.rd).mono ?_
      rintro e w14 ⟨q14,p14,n14,m14,s14,ko14,kl14,kc14,i14,k14,a14,rfl,hx14,hn14,hc14,hz14,y14,hy14,ml14⟩
      have e14:=life_ev hy14 ml14
      have hnm14:=hn14.name
      replace q:=q.nxm hx14
      clear hx14 hn14 hc14 hz14
      replace F:=q.f3
      go_wp2_with fail
      refine(hBo (q.p04 s14).st.rd _).mono ?_
      rintro e w15 ⟨ao15,cp15,vs15,i15,k15,a15,rfl,hx15,hK15,hl15,hP15,hz15,V15,hF15,m15⟩;have hV15:=hF15.len
      have ok15:Hid (k15=0→k14=0):=hx15.ok
      replace q:=(q.p04 s14).nodeOf hx15 (hK15.node (Nat.le_trans hl15 (by decide)) hnm14 hposJ (kind:=10) (n:=0) (m:=0) (fun e=>Gr.of_glife (fun x hx=>(hP15 e x hx).1 rfl))) hK15 hz15 hF15
      clear hx15 hK15 hz15
      replace F:=q.f3
      go_wp2_with (at_builtin;refine(q.p05 (.slice ao15 vs15.length cp15)).ap (sz w15) (Nat.le_trans hFl (by decide)) ?_;clear q F;intro w16 ao16 cp16 q;have F:=q.f3)
      go_wp2_with fail
      refine(q.p15 (.slice ao16 (vs.length+1) cp16)).et (eat42 · _) ?_
      clear q F
      intro w17 b17 i17 hE17 m17 q
      have F:=q.f3
      go_wp2_with fail
      ·go_wp2_with fail
       go_light
       exact Mf.retb (C:=fun x=>x=9) (d:= -1) Tryz.results167 rfl rfl ((q.fk 9 (t.pos i) (by have:=hFl;simp;omega) hposI (fun e=>Gr.of_gens (hl:=by have:=hFl;simp;omega) ((fun e=>by rw[List.map_append];exact all_snoc HC.out (.inl rfl)) e))).unbase (i':=i) (k':=k) (g':=False) (s':= -14) hb1.out.1 (fun _=>hb1.out.2.1) (fun x=>x.elim) (by omega)) 2 rfl (fun _=>rfl) (by omega) rfl (HM.out ((_,_),_) (EvL.stop (by unfold gGensB;exact evt)))
      ·go_wp2_with fail
       refine q.wn (want39F · _) ?_
       clear q F
       intro w18 i18 k18 a18 ok18 m18 q
       have F:=q.f3
       go_wp2_with fail
       replace q:=q.pop
       go_roundg (ml t i18 k18)
       case measure=>rw[HG.out];exact ml_lt hj q.le (q.go trivial)
       case rel=>exact⟨(.slice ao16 (vs.length+1) cp16),(vs++[(nodeC 10 (t.pos j) 0 0 s14 (.slice ao15 vs15.length cp15)).toList]),false,i18,k18,a18,rfl,Few.snoc (t:=t) hF rfl hj h.good (q.go trivial),⟨rfl,(fun e=>by rw[List.map_append];exact all_snoc HC.out (.inl rfl))⟩,_,(fun r hr=>HM.out r (EvL.on (by unfold gGensB;exact evt) hr)),q.unbase (s':=0) (g':=True) hb1.out.1 (fun _=>hb1.out.2.1) (fun _ _=>hb1.out.2.2) (by omega)⟩
     ·go_wp2_with fail
      refine(q.ne' (sz w6) (nk 10 (t.pos j) nl)).lf (kind22 · 0 (by decide) 4) ?_
      clear q F
      intro w19 q
      have F:=q.f3
      go_wp2_with fail
      refine(q.p00 11).nm name40F ?_
      clear q F
      intro w20 s20 i20 k20 a20 hs20 ho20 ok20 m20 q
      have F:=q.f3
      go_wp2_with fail
      refine(hBo (q.p04 s20).st.rd _).mono ?_
      rintro e w21 ⟨ao21,cp21,vs21,i21,k21,a21,rfl,hx21,hK21,hl21,hP21,hz21,V21,hF21,m21⟩;have hV21:=hF21.len
      have ok21:Hid (k21=0→k20=0):=hx21.ok
      replace q:=(q.p04 s20).nodeOf hx21 (hK21.node (Nat.le_trans hl21 (by decide)) (Nat.le_trans hs20 (by decide)) hposJ (kind:=11) (n:=0) (m:=0) (fun e=>Gr.of_gtype (fun x hx=>(hP21 e x hx).2))) hK21 hz21 hF21
      clear hx21 hK21 hz21
      replace F:=q.f3
      go_wp2_with (at_builtin;refine(q.p05 (.slice ao21 vs21.length cp21)).ap (sz w21) (Nat.le_trans hFl (by decide)) ?_;clear q F;intro w22 ao22 cp22 q;have F:=q.f3)
      go_wp2_with fail
      refine(q.p15 (.slice ao22 (vs.length+1) cp22)).et (eat42 · _) ?_
      clear q F
      intro w23 b23 i23 hE23 m23 q
      have F:=q.f3
      go_wp2_with fail
      ·go_wp2_with fail
       go_light
       exact Mf.retb (C:=fun x=>x=9) (d:= -1) Tryz.results167 rfl rfl ((q.fk 9 (t.pos i) (by have:=hFl;simp;omega) hposI (fun e=>Gr.of_gens (hl:=by have:=hFl;simp;omega) ((fun e=>by rw[List.map_append];exact all_snoc HC.out (.inr rfl)) e))).unbase (i':=i) (k':=k) (g':=False) (s':= -14) hb1.out.1 (fun _=>hb1.out.2.1) (fun x=>x.elim) (by omega)) 2 rfl (fun _=>rfl) (by omega) rfl (HM.out ((_,_),_) (EvL.stop (by unfold gGensB;exact evt)))
      ·go_wp2_with fail
       refine q.wn (want39F · _) ?_
       clear q F
       intro w24 i24 k24 a24 ok24 m24 q
       have F:=q.f3
       go_wp2_with fail
       replace q:=q.pop
       go_roundg (ml t i24 k24)
       case measure=>rw[HG.out];exact ml_lt hj q.le (q.go trivial)
       case rel=>exact⟨(.slice ao22 (vs.length+1) cp22),(vs++[(nodeC 11 (t.pos j) 0 0 s20 (.slice ao21 vs21.length cp21)).toList]),true,i24,k24,a24,rfl,Few.snoc (t:=t) hF rfl hj h.good (q.go trivial),⟨rfl,(fun e=>by rw[List.map_append];exact all_snoc HC.out (.inr rfl))⟩,_,(fun r hr=>HM.out r (EvL.on (by unfold gGensB;exact evt) hr)),q.unbase (s':=0) (g':=True) hb1.out.1 (fun _=>hb1.out.2.1) (fun _ _=>hb1.out.2.2) (by omega)⟩
end Go.Proofs.YtdplogkmkgekdaaGreatDoor
namespace Go.Proofs.YtdplogkmkgekdaaGreatDoor
open Go.RowKit
theorem gensF_all:gensF:=by
 intro w rb tb cap i t k a h b
 cases b
 ·exact gensF_false lifeF1 h
 ·exact gensF_true lifeF1 (boundsF lifeF1) h
end Go.Proofs.YtdplogkmkgekdaaGreatDoor
namespace Go.Proofs.YtdplogkmkgekdaaGreatDoor
open Go.RowKit
theorem headFp {w:World} {rb tb cap i:Nat} {t:Tk} {k a:Int} (h:Rd w rb tb cap t i k a):Calls Tryz.prog 103 #[.pointer (some ⟨rb,0,none⟩),.bool false] w (HeadF w rb tb cap t i k a (fun n=>gHead t (gG t n 0) false n)):=by
 have hl:=h.l
 have hposI:(0:Int)≤(t.pos i:Int)∧(t.pos i:Int)≤7000:=by have:=h.good.posb i;omega
 go_enter Tryz.func103,Tryz.ntmps103
 have q:=Mf.start (wt:=1) h
 go_wp2_with fail
 refine(q.ne' (sz w) (zeroC)).lf (node20 · 8) ?_
 clear q
 intro w1 q
 have F:=q.f1
 go_wp2_with fail
 refine(q.ne' (sz w1) (nk 8 (t.pos i) nl)).wn (want39F · _) ?_
 clear q F
 intro w2 i2 k2 a2 ok2 m2 q
 have F:=q.f2
 go_wp2_with fail
 refine q.nm name40F ?_
 clear q F
 intro w3 s3 i3 k3 a3 hs3 ho3 ok3 m3 q
 have F:=q.f2
 go_wp2_with fail
 refine(q.p04 s3).lf (node20 · 9) ?_
 clear q F
 intro w4 q
 have F:=q.f2
 have hposG:(0:Int)≤((t.pos i3):Int)∧((t.pos i3):Int)≤7000:=by have:=h.good.posb i3;omega
 go_wp2_with fail
 replace q:=(((q.lk 9 (t.pos i3) 0 0 ⟨#[]⟩ hposG (by decide) (fun _=>Gr.of_gens (fun x hx=>by cases hx))).p05 (sl ((sz w4)+1) 1)).ne' (sz w4) (nk 9 (t.pos i3) nl)).m1 ((sz w4)+1)
 have lB:=(q.at 1 rfl).2.2.1
 refine(parF q.st.rd).mono ?_
 rintro e w5 ⟨ao5,cp5,vs5,i5,k5,a5,rfl,hx5,hK5,hl5,hP5,hz5,V5,hF5,m5⟩;have hV5:=hF5.len
 have ok5:Hid (k5=0→k3=0):=hx5.ok
 replace q:=(q.holds hx5 hK5 hz5 hF5).up (g':=True) (fun _ e=>Nat.lt_of_le_of_lt q.le (hx5.go trivial e))
 clear hx5
 have HVL:Hid (V5.length=vs5.length):=hV5
 clear hV5
 replace F:=q.f3
 have hK2:=hK5.put (b:=(sz w1)) lB 2 (.int .i64 (vs5.length:Int))
 go_wp2_with (at_builtin;refine wp_run (v:=(sl ((sz w4)+1) 1)) (xv:=.slice ao5 vs5.length cp5) (R:=fun vv ww=>∃ao6 cp6,vv=(.slice ao6 (1+vs5.length) cp6)∧Mf 1 w rb tb cap t i k True (-31) ww i5 k5 a5 [(sz w4,nk 9 (t.pos i3) nl),(sz w1,nodeC 8 (t.pos i) (vs5.length:Int) 0 s3 (sl ((sz w4)+1) 1)),(sz w,zeroC)] [] (.slice ao6 (1+vs5.length) cp6) ([(nk 9 (t.pos i3) nl).toList]++vs5) [] ([nd 9 (t.pos i3) 0 0 E0 []]++V5)) (by rfl) (by rfl) (by rfl) (by rfl) (Mf.run_apps (us:=vs5) (U:=V5) (q.p12 (vs5.length:Int)) HVL.out hK2 (by simp) (Nat.le_trans hl5 (by decide)) _) ?_;rintro v' w6 ⟨ao6,cp6,rfl,q'⟩;replace q:=q';clear q';replace F:=q.f3)
 go_wp2_with fail
 go_region_law (first|(refine q.as (sz w7) (by have:=hl5;simp;omega) ?_;clear q F;intro w8 ao8 cp8 q;have F:=q.f3)|(go_simp;refine(q.p15 (.slice ao6 (1+vs5.length) cp6)).drew.nn resF ?_;clear q F;intro w7 x7 i7 k7 a7 y7 hc7 ok7 m7 q;have F:=q.f3))
 all_goals
  go_wp2_with fail
  go_light
  exact Mf.ret_head (vs:=(([(nk 9 (t.pos i3) nl).toList]++vs5)++[x7.t])) (n:=(vs5.length:Int)) Tryz.results103 rfl rfl (by simp;omega) (q.p15 (.slice ao8 ((1+vs5.length)+1) cp8)) 2 rfl (by have:=hl5;simp;omega) (Nat.le_trans hs3 (by decide)) hposI (fun e=>⟨vs5.map labOf,_,by rw[List.map_append,List.map_append];show labOf _::_=_;rfl,by simp,hP5 (ok7.out e),hc7 e⟩) (by omega) (by have hv:=HVL.out;have hfin:(((t.pos i:Int),s3,nd 9 (t.pos i3:Int) 0 0 E0 []::(V5++[y7]),(V5.length:Int)))=((t.pos i:Int),s3,[nd 9 (t.pos i3:Int) 0 0 E0 []]++V5++[y7],(vs5.length:Int)):=(by rw[hv];simp);unfold gHead;exact evt)
end Go.Proofs.YtdplogkmkgekdaaGreatDoor
namespace Go.Proofs.YtdplogkmkgekdaaGreatDoor
open Go.RowKit
theorem headFb {w:World} {rb tb cap i:Nat} {t:Tk} {k a:Int} (h:Rd w rb tb cap t i k a):Calls Tryz.prog 103 #[.pointer (some ⟨rb,0,none⟩),.bool true] w (HeadF w rb tb cap t i k a (fun n=>gHead t (gG t n 0) true n)):=by
 have hl:=h.l
 have hposI:(0:Int)≤(t.pos i:Int)∧(t.pos i:Int)≤7000:=by have:=h.good.posb i;omega
 go_enter Tryz.func103,Tryz.ntmps103
 have q:=Mf.start (wt:=1) h
 go_wp2_with fail
 refine(q.ne' (sz w) (zeroC)).lf (node20 · 8) ?_
 clear q
 intro w1 q
 have F:=q.f1
 go_wp2_with fail
 refine(q.ne' (sz w1) (nk 8 (t.pos i) nl)).wn (want39F · _) ?_
 clear q F
 intro w2 i2 k2 a2 ok2 m2 q
 have F:=q.f2
 go_wp2_with fail
 refine q.nm name40F ?_
 clear q F
 intro w3 s3 i3 k3 a3 hs3 ho3 ok3 m3 q
 have F:=q.f2
 go_wp2_with fail
 refine(q.p04 s3).lf (node20 · 9) ?_
 clear q F
 intro w4 q
 have F:=q.f2
 have hposG:(0:Int)≤((t.pos i3):Int)∧((t.pos i3):Int)≤7000:=by have:=h.good.posb i3;omega
 go_wp2_with fail
 refine(q.ne' (sz w4) (nk 9 (t.pos i3) nl)).nn (gensF_all · true) ?_
 clear q F
 intro w5 x5 i5 k5 a5 y5 hc5 ok5 m5 q
 have F:=q.f3
 go_wp2_with fail
 replace q:=((q.pA0 x5.k x5.p x5.n x5.m x5.s x5.v).p15 (sl (sz w5) 1)).m1 (sz w5)
 have lB:=(q.at 1 rfl).2.2.1
 refine(parF q.st.rd).mono ?_
 rintro e w6 ⟨ao6,cp6,vs6,i6,k6,a6,rfl,hx6,hK6,hl6,hP6,hz6,V6,hF6,m6⟩;have hV6:=hF6.len
 have ok6:Hid (k6=0→k5=0):=hx6.ok
 replace q:=(q.holds hx6 hK6 hz6 hF6).up (g':=True) (fun _ e=>Nat.lt_of_le_of_lt q.le (hx6.go trivial e))
 clear hx6
 have HVL:Hid (V6.length=vs6.length):=hV6
 clear hV6
 replace F:=q.f3
 have hK2:=hK6.put (b:=(sz w1)) lB 2 (.int .i64 (vs6.length:Int))
 go_wp2_with (at_builtin;refine wp_run (v:=(sl (sz w5) 1)) (xv:=.slice ao6 vs6.length cp6) (R:=fun vv ww=>∃ao7 cp7,vv=(.slice ao7 (1+vs6.length) cp7)∧Mf 1 w rb tb cap t i k True (-31) ww i6 k6 a6 [(sz w4,x5.a),(sz w1,nodeC 8 (t.pos i) (vs6.length:Int) 0 s3 (sl (sz w5) 1)),(sz w,zeroC)] [] (.slice ao7 (1+vs6.length) cp7) ([x5.t]++vs6) [] ([y5]++V6)) (by rfl) (by rfl) (by rfl) (by rfl) (Mf.run_apps (us:=vs6) (U:=V6) (q.p12 (vs6.length:Int)) HVL.out hK2 (by simp) (Nat.le_trans hl6 (by decide)) _) ?_;rintro v' w7 ⟨ao7,cp7,rfl,q'⟩;replace q:=q';clear q';replace F:=q.f3)
 go_wp2_with fail
 go_region_law (first|(refine q.as (sz w8) (by have:=hl6;simp;omega) ?_;clear q F;intro w9 ao9 cp9 q;have F:=q.f3)|(go_simp;refine(q.p15 (.slice ao7 (1+vs6.length) cp7)).drew.nn resF ?_;clear q F;intro w8 x8 i8 k8 a8 y8 hc8 ok8 m8 q;have F:=q.f3))
 all_goals
  go_wp2_with fail
  go_light
  exact Mf.ret_head (vs:=(([x5.t]++vs6)++[x8.t])) (n:=(vs6.length:Int)) Tryz.results103 rfl rfl (by simp;omega) (q.p15 (.slice ao9 ((1+vs6.length)+1) cp9)) 2 rfl (by have:=hl6;simp;omega) (Nat.le_trans hs3 (by decide)) hposI (fun e=>⟨vs6.map labOf,_,by rw[List.map_append,List.map_append];show labOf _::_=_;rw[hc5 (ok6.out (ok8.out e))];rfl,by simp,hP6 (ok8.out e),hc8 e⟩) (by omega) (by have hv:=HVL.out;have hfin:(((t.pos i:Int),s3,y5::(V6++[y8]),(V6.length:Int)))=((t.pos i:Int),s3,[y5]++V6++[y8],(vs6.length:Int)):=(by rw[hv];simp);unfold gHead;exact evt)
end Go.Proofs.YtdplogkmkgekdaaGreatDoor
