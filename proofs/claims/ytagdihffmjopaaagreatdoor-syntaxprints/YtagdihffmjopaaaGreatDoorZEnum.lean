/- enum, counted. -/
import Derived.Test.YtagdihffmjopaaaGreatDoorZItem
import Derived.Test.YtagdihffmjopaaaGreatDoorApp
namespace Go.Proofs.YtagdihffmjopaaaGreatDoor
set_option linter.all false
open Go.RowKit
theorem is_no {w:World} {rb tb cap i:Nat} {t:Tk} {k a:Int} (h:Rd w rb tb cap t i k a) (ahead:Nat) (ha:ahead≤2) (s:ByteArray) (hb:isB t i k ahead s=false):Calls Tryz.prog 21 #[.pointer (some ⟨rb,0,none⟩),.int .i64 ahead,.string s] w fun e w'=>e=.returned (.bool false)∧Below (sz w) w w':=by
 have:=is41 h ahead ha s
 rwa [hb] at this
theorem is_yes {w:World} {rb tb cap i:Nat} {t:Tk} {k a:Int} (h:Rd w rb tb cap t i k a) (ahead:Nat) (ha:ahead≤2) (s:ByteArray) (hb:isB t i k ahead s=true):Calls Tryz.prog 21 #[.pointer (some ⟨rb,0,none⟩),.int .i64 ahead,.string s] w fun e w'=>e=.returned (.bool true)∧Below (sz w) w w':=by
 have:=is41 h ahead ha s
 rwa [hb] at this
theorem two_path {a b:ByteArray} (ha:nameOK a) (hb:nameOK b):pathOK 2 (a++⟨#[58,58]⟩++b)∧¬pathOK 1 (a++⟨#[58,58]⟩++b):=by
 have e:(a++⟨#[58,58]⟩++b).toList=a.toList++58::58::b.toList:=by
  rw[append_list,append_list,show(⟨#[58,58]⟩:ByteArray).toList=[58,58] by rw[Lib.toList_data]]
  simp
 refine⟨⟨[a.toList,b.toList],by simp,by simp,fun n hn=>?_,by rw[e];rfl⟩,?_⟩
 ·simp only[List.mem_cons,List.not_mem_nil,or_false] at hn
  rcases hn with rfl|rfl
  ·exact ha
  ·exact hb
 ·rintro⟨ns,h1,h2,h3,h4⟩
  match ns,h1,h2,h3,h4 with
  |[m],_,_,h3,h4=>
   rw[e] at h4
   have h5:=(h3 m (by simp)).2
   have h6:m=a.toList++58::58::b.toList:=h4.symm
   exact h5 (by rw[h6];simp)
set_option maxRecDepth 100000 in
set_option maxHeartbeats 2000000 in
theorem moduleZ (hEn:enumQ) {w:World} {rb tb cap i:Nat} {t:Tk} {k a:Int} (h:Rd w rb tb cap t i k a):Calls Tryz.prog 11 #[.pointer (some ⟨rb,0,none⟩)] w (NodeZ 1 w rb tb cap t i k True 8 (fun x=>x=1)):=by
 have hl:=h.l
 have hposI:(0:Int)≤(t.pos i:Int)∧(t.pos i:Int)≤7000:=by have:=h.good.posb i;omega
 go_enter Tryz.func11,Tryz.ntmps11
 have q:=Mz.start (wt:=1) h
 go_wp2_with fail
 refine(q.ne' (sz w) (zeroC)).lf (node20 · 1) ?_
 clear q
 intro w1 q
 have F:=q.f1
 go_wp2_with fail
 refine(q.ne' (sz w1) (nk 1 (t.pos i) nl)).wn (want39 · _) ?_
 clear q F
 intro w2 i2 k2 a2 ok2 q
 have F:=q.f2
 go_wp2_with fail
 refine q.nm name40 ?_
 clear q F
 intro w3 s3 i3 k3 a3 hs3 ho3 ok3 q
 have F:=q.f2
 go_wp2_with fail
 refine(q.p04 s3).wn (want39 · _) ?_
 clear q F
 intro w4 i4 k4 a4 ok4 q
 have F:=q.f2
 go_wp2_with fail
 go_loopg [4] (ml t i4 k4) (fun g _ wr=>∃(v:Value) (vs:List (List Value)) (j:Nat) (kj aj:Int),g=ml t j kj∧Few 4 vs j kj∧(kj=0→∀x∈vs.map labOf,x=2∨x=3∨x=6∨x=7∨x=108∨x=208)∧Mz 1 w rb tb cap t i k True (-48) wr j kj aj [(sz w1,nodeC 1 (t.pos i) 0 0 s3 v),(sz w,zeroC)] [] v vs)
 case atStart=>exact⟨nl,[],i4,k4,a4,rfl,⟨fun _=>by simp,by simp⟩,(fun _ x hx=>by cases hx),(q.less (by omega))⟩
 case round=>
  clear F q
  obtain⟨v,vs,j,kj,aj,hgk,hF,hE,q⟩:=hrel
  have hj:=q.st.rd.lt
  have hposJ:(0:Int)≤(t.pos j:Int)∧(t.pos j:Int)≤7000:=by have:=h.good.posb j;omega
  have HG:Hid (gk=ml t j kj):=hgk
  clear hgk
  obtain⟨ao5,cp5,rfl⟩:=q.shape
  have F:=q.f2
  cases hk0:(kj==0)
  ·go_wp2_with fail
   refine q.lf ok21b ?_
   clear q F
   intro w6 q
   have F:=q.f2
   have hkn:kj≠0:=by simpa using hk0
   go_wp2_with fail
   go_loopg [] (ml t j kj) (fun g wr=>∃(v:Value) (vs:List (List Value)) (j:Nat) (kj aj:Int),g=ml t j kj∧Few 4 vs j kj∧(kj=0→∀x∈vs.map labOf,x=2∨x=3∨x=6∨x=7∨x=108∨x=208)∧Mz 1 w rb tb cap t i k True (-48) wr j kj aj [(sz w1,nodeC 1 (t.pos i) 0 0 s3 v),(sz w,zeroC)] [] v vs)
   case atStart=>exact⟨(.slice ao5 vs.length cp5),vs,j,kj,aj,rfl,hF,(fun e=>absurd e hkn),(q.less (by omega))⟩
   case round=>
    clear F q
    obtain⟨v,vs,j,kj,aj,hgk,hF,hE,q⟩:=hrel
    have hj:=q.st.rd.lt
    have hposJ:(0:Int)≤(t.pos j:Int)∧(t.pos j:Int)≤7000:=by have:=h.good.posb j;omega
    have HG:Hid (gk=ml t j kj):=hgk
    clear hgk
    obtain⟨ao7,cp7,rfl⟩:=q.shape
    have F:=q.f2
    cases hk0:(kj==0)
    ·go_wp2_with fail
     refine q.lf ok21b ?_
     clear q F
     intro w8 q
     have F:=q.f2
     go_wp2_with fail
     go_light
     exact Mz.retb (C:=fun x=>x=1) (d:=8) Tryz.results11 rfl rfl (q.fo 1 (t.pos i) 0 0 s3 (Nat.le_trans hF.2 (by decide)) hposI (Nat.le_trans hs3 (by decide)) (fun e=>absurd e (by simpa using hk0))) 1 rfl (fun _=>lab_ne (by decide)) (by omega) rfl
    ·obtain rfl:kj=0:=by simpa using hk0
     have hb1:Hid (i≤j∧k=0∧i<j):=⟨q.le,q.ok rfl,q.go trivial rfl⟩
     have HE:Hid (∀x∈vs.map labOf,x=2∨x=3∨x=6∨x=7∨x=108∨x=208):=hE rfl
     clear hE
     have hFl:vs.length≤6005:=by have:=hF.1 rfl;have:=h.good.few;omega
     replace q:=q.rebase
     go_wp2_with fail
     refine q.lf ok21b ?_
     clear q F
     intro w9 q
     have F:=q.f2
     go_wp2_with fail
     refine q.et (eat42 · _) ?_
     clear q F
     intro w10 b10 i10 hE10 q
     have F:=q.f2
     go_wp2_with fail
     ·go_wp2_with fail
      go_region_law (first|(refine q.as (sz w11) (Nat.le_trans hFl (by decide)) ?_;clear q F;intro w12 ao12 cp12 q;have F:=q.f2)|(go_simp;refine q.drew.nd (itemZ hEn ·) ?_;clear q F;intro w11 x11 i11 k11 a11 hc11 ok11 q;have F:=q.f2))
      all_goals
       go_wp2_with fail
       replace q:=q.p05 (.slice ao12 (vs.length+1) cp12)
       go_roundg (ml t i11 k11)
       case measure=>rw[HG.out];exact ml_lt hj q.le (q.go trivial)
       case rel=>exact⟨(.slice ao12 (vs.length+1) cp12),(vs++[x11.t]),i11,k11,a11,rfl,Few.snoc (t:=t) hF rfl hj h.good (q.go trivial),(fun e=>by rw[List.map_append];exact all_snoc (C:=fun x=>x=2∨x=3∨x=6∨x=7∨x=108∨x=208) HE.out (.inr (hc11 e))),q.unbase (s':= -48) (g':=True) hb1.out.1 (fun _=>hb1.out.2.1) (fun _ _=>hb1.out.2.2) (by omega)⟩
     ·go_wp2_with fail
      go_light
      exact Mz.retb (C:=fun x=>x=1) (d:=8) Tryz.results11 rfl rfl ((q.fo 1 (t.pos i) 0 0 s3 (Nat.le_trans hF.2 (by decide)) hposI (Nat.le_trans hs3 (by decide)) (fun e=>Gr.of_mod HE.out)).unbase (s':= -47) (g':=True) hb1.out.1 (fun _=>hb1.out.2.1) (fun _ _=>hb1.out.2.2) (by omega)) 1 rfl (fun _=>lab_ne (by decide)) (by omega) rfl
  ·obtain rfl:kj=0:=by simpa using hk0
   have hb1:Hid (i≤j∧k=0∧i<j):=⟨q.le,q.ok rfl,q.go trivial rfl⟩
   have HE:Hid (∀x∈vs.map labOf,x=2∨x=3∨x=6∨x=7∨x=108∨x=208):=hE rfl
   clear hE
   have hFl:vs.length≤6005:=by have:=hF.1 rfl;have:=h.good.few;omega
   replace q:=q.rebase
   go_wp2_with fail
   refine q.lf ok21b ?_
   clear q F
   intro w13 q
   have F:=q.f2
   cases hu:isB t j 0 0 ⟨#[117,115,101]⟩
   ·go_wp2_with fail
    refine q.lf (is_no · 0 (by decide) _ hu) ?_
    clear q F
    intro w14 q
    have F:=q.f2
    clear hu
    go_wp2_with fail
    replace q:=q.unbase (s':= -48) (g':=True) hb1.out.1 (fun _=>hb1.out.2.1) (fun _ _=>hb1.out.2.2) (by omega)
    replace F:=q.f2
    go_wp2_with fail
    go_loopg [] (ml t j 0) (fun g wr=>∃(v:Value) (vs:List (List Value)) (j:Nat) (kj aj:Int),g=ml t j kj∧Few 4 vs j kj∧(kj=0→∀x∈vs.map labOf,x=2∨x=3∨x=6∨x=7∨x=108∨x=208)∧Mz 1 w rb tb cap t i k True (-48) wr j kj aj [(sz w1,nodeC 1 (t.pos i) 0 0 s3 v),(sz w,zeroC)] [] v vs)
    case atStart=>exact⟨(.slice ao5 vs.length cp5),vs,j,0,aj,rfl,hF,(fun _=>HE.out),(q.less (by omega))⟩
    case round=>
     clear F q
     obtain⟨v,vs,j,kj,aj,hgk,hF,hE,q⟩:=hrel
     have hj:=q.st.rd.lt
     have hposJ:(0:Int)≤(t.pos j:Int)∧(t.pos j:Int)≤7000:=by have:=h.good.posb j;omega
     have HG:Hid (gk=ml t j kj):=hgk
     clear hgk
     obtain⟨ao15,cp15,rfl⟩:=q.shape
     have F:=q.f2
     cases hk0:(kj==0)
     ·go_wp2_with fail
      refine q.lf ok21b ?_
      clear q F
      intro w16 q
      have F:=q.f2
      go_wp2_with fail
      go_light
      exact Mz.retb (C:=fun x=>x=1) (d:=8) Tryz.results11 rfl rfl (q.fo 1 (t.pos i) 0 0 s3 (Nat.le_trans hF.2 (by decide)) hposI (Nat.le_trans hs3 (by decide)) (fun e=>absurd e (by simpa using hk0))) 1 rfl (fun _=>lab_ne (by decide)) (by omega) rfl
     ·obtain rfl:kj=0:=by simpa using hk0
      have hb1:Hid (i≤j∧k=0∧i<j):=⟨q.le,q.ok rfl,q.go trivial rfl⟩
      have HE:Hid (∀x∈vs.map labOf,x=2∨x=3∨x=6∨x=7∨x=108∨x=208):=hE rfl
      clear hE
      have hFl:vs.length≤6005:=by have:=hF.1 rfl;have:=h.good.few;omega
      replace q:=q.rebase
      go_wp2_with fail
      refine q.lf ok21b ?_
      clear q F
      intro w17 q
      have F:=q.f2
      go_wp2_with fail
      refine q.et (eat42 · _) ?_
      clear q F
      intro w18 b18 i18 hE18 q
      have F:=q.f2
      go_wp2_with fail
      ·go_wp2_with fail
       go_region_law (first|(refine q.as (sz w19) (Nat.le_trans hFl (by decide)) ?_;clear q F;intro w20 ao20 cp20 q;have F:=q.f2)|(go_simp;refine q.drew.nd (itemZ hEn ·) ?_;clear q F;intro w19 x19 i19 k19 a19 hc19 ok19 q;have F:=q.f2))
       all_goals
        go_wp2_with fail
        replace q:=q.p05 (.slice ao20 (vs.length+1) cp20)
        go_roundg (ml t i19 k19)
        case measure=>rw[HG.out];exact ml_lt hj q.le (q.go trivial)
        case rel=>exact⟨(.slice ao20 (vs.length+1) cp20),(vs++[x19.t]),i19,k19,a19,rfl,Few.snoc (t:=t) hF rfl hj h.good (q.go trivial),(fun e=>by rw[List.map_append];exact all_snoc (C:=fun x=>x=2∨x=3∨x=6∨x=7∨x=108∨x=208) HE.out (.inr (hc19 e))),q.unbase (s':= -48) (g':=True) hb1.out.1 (fun _=>hb1.out.2.1) (fun _ _=>hb1.out.2.2) (by omega)⟩
      ·go_wp2_with fail
       go_light
       exact Mz.retb (C:=fun x=>x=1) (d:=8) Tryz.results11 rfl rfl ((q.fo 1 (t.pos i) 0 0 s3 (Nat.le_trans hF.2 (by decide)) hposI (Nat.le_trans hs3 (by decide)) (fun e=>Gr.of_mod HE.out)).unbase (s':= -47) (g':=True) hb1.out.1 (fun _=>hb1.out.2.1) (fun _ _=>hb1.out.2.2) (by omega)) 1 rfl (fun _=>lab_ne (by decide)) (by omega) rfl
   ·go_wp2_with fail
    refine q.lf (is_yes · 0 (by decide) _ hu) ?_
    clear q F
    intro w21 q
    have F:=q.f2
    go_wp2_with fail
    refine q.lf (node20 · 2) ?_
    clear q F
    intro w22 q
    have F:=q.f2
    have hposA:(0:Int)≤((t.pos j):Int)∧((t.pos j):Int)≤7000:=by have:=h.good.posb j;omega
    go_wp2_with fail
    refine(q.ne' (sz w22) (nk 2 (t.pos j) nl)).wn (want39 · _) ?_
    clear q F
    intro w23 i23 k23 a23 ok23 q
    have F:=q.f3
    go_wp2_with fail
    refine q.nm name40 ?_
    clear q F
    intro w24 s24 i24 k24 a24 hs24 ho24 ok24 q
    have F:=q.f3
    go_wp2_with fail
    refine(q.p04 s24).wn (want39 · _) ?_
    clear q F
    intro w25 i25 k25 a25 ok25 q
    have F:=q.f3
    have hcat1:¬(9223372036854775807<s24.size+2):=by have:=hs24;omega
    go_upto_region 10 with fail
    go_cut [] (fun wx=>∃(nmu:ByteArray) (j26:Nat) (k26 a26:Int),(nmu.size≤20000∧(k26=0→pathOK 2 nmu∧¬pathOK 1 nmu))∧Mz 1 w rb tb cap t j 0 True (16*((j:Int) - (i:Int))+(-96)) wx j26 k26 a26 [(sz w22,nodeC 2 (t.pos j) 0 0 nmu nl),(sz w1,nodeC 1 (t.pos i) 0 0 s3 (.slice ao5 vs.length cp5)),(sz w,zeroC)] [] (.slice ao5 vs.length cp5) vs)
    case first=>
     go_wp2_with fail
     go_region_law (go_simp;refine(name40 q.drew.st.rd).mono ?_;rintro e w27 ⟨s27,rfl,hs27,i27,k27,a27,hx27,ho27⟩;have hcat2:¬(9223372036854775807<s24.size+2+s27.size):=(by have:=hs24;omega);have ok27:Hid (k27=0→k25=0):=hx27.ok;replace q:=q.drew.nxm hx27;clear hx27;replace F:=q.f3)
     all_goals
      go_wp2_with fail
      go_meet
      exact⟨(s24++⟨#[58,58]⟩++s27),i27,k27,a27,⟨by rw[append_size,append_size];show s24.size+2+s27.size≤_;omega,fun e=>two_path (ho24 (ok25.out (ok27.out e))) (ho27 e)⟩,((q.p04 (s24++⟨#[58,58]⟩++s27)).less (by omega))⟩
    case rest=>
     clear F q
     obtain⟨nmu,j26,k26,a26,hN,q⟩:=hcut
     obtain⟨w28,hw⟩:∃x,x=wc:=⟨_,rfl⟩
     subst hw
     have F:=q.f3
     have HNm:Hid (k26=0→pathOK 2 nmu∧¬pathOK 1 nmu):=hN.2
     have hNs:=hN.1
     clear hN
     go_wp2_with fail
     refine q.wn (want39 · _) ?_
     clear q F
     intro w29 i29 k29 a29 ok29 q
     have F:=q.f3
     go_wp2_with (at_builtin;refine(q.lk 2 (t.pos j) 0 0 nmu hposA hNs (fun e=>Gr.of_use ⟨rfl,(HNm.out (ok29.out e)).1⟩)).ap (sz w29) (Nat.le_trans hFl (by decide)) ?_;clear q F;intro w30 ao30 cp30 q;have F:=q.f3)
     go_wp2_with fail
     replace q:=(q.p15 (.slice ao30 (vs.length+1) cp30)).pop
     go_roundg (ml t i29 k29)
     case measure=>rw[HG.out];exact ml_lt hj q.le (q.go trivial)
     case rel=>exact⟨(.slice ao30 (vs.length+1) cp30),(vs++[(nodeC 2 (t.pos j) 0 0 nmu nl).toList]),i29,k29,a29,rfl,Few.snoc (t:=t) hF rfl hj h.good (q.go trivial),(fun e=>by rw[List.map_append];exact all_snoc (C:=fun x=>x=2∨x=3∨x=6∨x=7∨x=108∨x=208) HE.out (.inl (lab_ne (by decide)))),q.unbase (s':= -48) (g':=True) hb1.out.1 (fun _=>hb1.out.2.1) (fun _ _=>hb1.out.2.2) (by omega)⟩
end Go.Proofs.YtagdihffmjopaaaGreatDoor
namespace Go.Proofs.YtagdihffmjopaaaGreatDoor
set_option linter.all false
open Go.RowKit
section
variable{w W w':World} {rb tb cap i j:Nat} {t:Tk} {k kj aj:Int} {g:Prop} {s:Int} {L:List (Nat × Array Value)} {T us:List (List Value)} {kv:Value} {vs:List (List Value)}
theorem Mz.take1 {idx:Nat} {x:List Value} (q:Mz 1 w rb tb cap t i k g s W j kj aj L (us++(us.drop idx++T)) kv vs) (h:us[idx]? =some x):Mz 1 w rb tb cap t i k g s W j kj aj L ([x]++(us++(us.drop (idx+1)++T))) kv vs:=by
 have e:us.drop idx=x::us.drop (idx+1):=by
  obtain⟨h1,h2⟩:=List.getElem?_eq_some_iff.1 h
  rw[List.drop_eq_getElem_cons h1,h2]
 rw[e] at q
 refine q.sub (fun y hy=>?_) (fun f X=>?_)
 ·simp only[List.mem_append,List.mem_cons,List.not_mem_nil,or_false] at hy⊢
  rcases hy with h|h|h|h
  ·exact .inr (.inl (.inl h))
  ·exact .inl h
  ·exact .inr (.inl (.inr h))
  ·exact .inr (.inr h)
 ·simp only[tot_append,tot_cons,tot_nil]
  omega
theorem Mz.forget {idx:Nat} (q:Mz 1 w rb tb cap t i k g s W j kj aj L (us++(us.drop idx++T)) kv vs):Mz 1 w rb tb cap t i k g s W j kj aj L T kv vs:=by
 refine q.sub (fun y hy=>by simp only[List.mem_append];exact .inr (.inr hy)) (fun f X=>?_)
 have h1:=tot_nonneg 1 f X us
 have h2:=tot_nonneg 1 f X (us.drop idx)
 simp only[tot_append]
 omega
end
end Go.Proofs.YtagdihffmjopaaaGreatDoor
namespace Go.Proofs.YtagdihffmjopaaaGreatDoor
set_option linter.all false
open Go.RowKit
set_option maxRecDepth 100000 in
set_option maxHeartbeats 1000000 in
theorem enumZ:enumQ:=by
 intro w rb tb cap i t k a h pos M hpos hM
 have HM:Hid (0≤M∧M≤3):=hM
 clear hM
 have hl:=h.l
 go_enter Tryz.func43,Tryz.ntmps43
 have q:=Mz.start (wt:=1) h
 go_wp2_with fail
 refine((q.ne' (sz w) (nodeC 3 pos 1 M ⟨#[]⟩ nl)).ne' ((sz w)+1) (zeroC)).nm name40 ?_
 clear q
 intro w1 s1 i1 k1 a1 hs1 ho1 ok1 q
 have F:=q.f2
 go_wp2_with fail
 refine(q.p14 s1).nn (gensZ · false) ?_
 clear q F
 intro w2 x2 i2 k2 a2 hc2 ok2 q
 have F:=q.f2
 go_wp2_with fail
 refine((q.p15 (sl (sz w2) 1)).m1 (sz w2)).wn (want39 · _) ?_
 clear q F
 intro w3 i3 k3 a3 ok3 q
 have F:=q.f2
 go_wp2_with fail
 go_loopg [5,7] (ml t i3 k3) (fun g _ _ wr=>∃(v:Value) (vs:List (List Value)) (j:Nat) (kj aj:Int),g=ml t j kj∧Few 4 vs j kj∧(1≤vs.length∧(kj=0→∃rs,vs.map labOf=9::rs∧∀x∈rs,x=4))∧Mz 1 w rb tb cap t i k True (-31) wr j kj aj [((sz w)+1,zeroC),(sz w,nodeC 3 pos 1 M s1 v)] [] v vs)
 case atStart=>exact⟨(sl (sz w2) 1),[x2.t],i3,k3,a3,rfl,⟨fun _=>by simp,by simp⟩,⟨by simp,fun e=>⟨[],by show [labOf x2.t]=_;rw[hc2 (ok3.out e)],fun x hx=>by cases hx⟩⟩,(q.less (by omega))⟩
 case round=>
  clear F q
  obtain⟨v,vs,j,kj,aj,hgk,hF,hE,q⟩:=hrel
  have hj:=q.st.rd.lt
  have hposJ:(0:Int)≤(t.pos j:Int)∧(t.pos j:Int)≤7000:=by have:=h.good.posb j;omega
  have HG:Hid (gk=ml t j kj):=hgk
  clear hgk
  obtain⟨ao4,cp4,rfl⟩:=q.shape
  have F:=q.f2
  cases hk0:(kj==0)
  ·go_wp2_with fail
   refine q.lf ok21b ?_
   clear q F
   intro w5 q
   have F:=q.f2
   go_wp2_with fail
   go_light
   exact Mz.retb (C:=fun x=>x=3) (d:=8) Tryz.results43 rfl rfl (q.fo 3 pos 1 M s1 (Nat.le_trans hF.2 (by decide)) hpos (Nat.le_trans hs1 (by decide)) (fun e=>absurd e (by simpa using hk0))) 0 rfl (fun _=>lab_ne (by decide)) (by omega) rfl
  ·obtain rfl:kj=0:=by simpa using hk0
   have hb1:Hid (i≤j∧k=0∧i<j):=⟨q.le,q.ok rfl,q.go trivial rfl⟩
   have HE:Hid (1≤vs.length∧∃rs,vs.map labOf=9::rs∧∀x∈rs,x=4):=⟨hE.1,hE.2 rfl⟩
   clear hE
   have hFl:vs.length≤6005:=by have:=hF.1 rfl;have:=h.good.few;omega
   replace q:=q.rebase
   go_wp2_with fail
   refine q.lf ok21b ?_
   clear q F
   intro w6 q
   have F:=q.f2
   go_wp2_with fail
   refine q.et (eat42 · _) ?_
   clear q F
   intro w7 b7 i7 hE7 q
   have F:=q.f2
   go_wp2_with fail
   ·obtain⟨gb8,rfl⟩:=q.shapeT HE.out.1
    clear F
    have F:=q.f2
    obtain⟨c9,hR9,q'⟩:=q.park
    clear q
    have q:=q'
    clear q'
    go_wp2_with fail
    refine q.lf (node20 · 4) ?_
    clear q F
    intro w10 q
    obtain⟨c_z,f_z,l_z,r_z⟩:=q.at 1 rfl
    obtain⟨c_n,f_n,l_n,r_n⟩:=q.at 2 rfl
    have hposV:(0:Int)≤((t.pos i7):Int)∧((t.pos i7):Int)≤7000:=by have:=h.good.posb i7;omega
    go_wp2_with fail
    refine(q.ne' (sz w10) (nk 4 (t.pos i7) nl)).nm name40 ?_
    clear q c_z f_z l_z r_z c_n f_n l_n r_n
    intro w11 s11 i11 k11 a11 hs11 ho11 ok11 q
    have HO:Hid (k11=0→nameOK s11):=ho11
    clear ho11
    obtain⟨c_v,f_v,l_v,r_v⟩:=q.at 0 rfl
    obtain⟨c_z,f_z,l_z,r_z⟩:=q.at 2 rfl
    obtain⟨c_n,f_n,l_n,r_n⟩:=q.at 3 rfl
    obtain⟨ne_v_z,ne_z_v⟩:=q.ne 0 2 rfl rfl (by decide)
    obtain⟨ne_v_n,ne_n_v⟩:=q.ne 0 3 rfl rfl (by decide)
    go_wp2_with fail
    refine(q.p04 s11).lf (is41 · 0 (by decide) _) ?_
    clear q c_v f_v l_v r_v c_z f_z l_z r_z c_n f_n l_n r_n
    intro w12 q
    obtain⟨c_v,f_v,l_v,r_v⟩:=q.at 0 rfl
    obtain⟨c_z,f_z,l_z,r_z⟩:=q.at 2 rfl
    obtain⟨c_n,f_n,l_n,r_n⟩:=q.at 3 rfl
    go_upto_if 30 with fail
    go_cut [] (fun wx=>∃(kvv:Value) (vsv:List (List Value)) (j13:Nat) (k13 a13:Int),(vsv.length≤6002∧(k13=0→nameOK s11∧∀x∈vsv.map labOf,x=5))∧Mz 1 w rb tb cap t j 0 True (16*((j:Int) - (i:Int))+(-47)) wx j13 k13 a13 [(sz w10,nodeC 4 (t.pos i7) 0 0 s11 kvv),(gb8,c9),((sz w)+1,zeroC),(sz w,nodeC 3 pos 1 M s1 (.slice (some ⟨gb8,0,none⟩) vs.length cp4))] ([]++(vs++[])) kvv vsv)
    case first=>
     go_wp2_with fail
     ·go_wp2_with fail
      refine q.wn (want39 · _) ?_
      clear q c_v f_v l_v r_v c_z f_z l_z r_z c_n f_n l_n r_n
      intro w14 i14 k14 a14 ok14 q
      obtain⟨c_v,f_v,l_v,r_v⟩:=q.at 0 rfl
      obtain⟨c_z,f_z,l_z,r_z⟩:=q.at 2 rfl
      obtain⟨c_n,f_n,l_n,r_n⟩:=q.at 3 rfl
      go_wp2_with fail
      refine q.lf (is41 · 0 (by decide) _) ?_
      clear q c_v f_v l_v r_v c_z f_z l_z r_z c_n f_n l_n r_n
      intro w15 q
      obtain⟨c_v,f_v,l_v,r_v⟩:=q.at 0 rfl
      obtain⟨c_z,f_z,l_z,r_z⟩:=q.at 2 rfl
      obtain⟨c_n,f_n,l_n,r_n⟩:=q.at 3 rfl
      go_upto_if 34 with fail
      go_cut [] (fun wx=>∃(j16:Nat) (k16 a16:Int),Hid (k16=0→nameOK s11)∧Mz 1 w rb tb cap t j 0 True (16*((j:Int) - (i:Int))+(-63)) wx j16 k16 a16 [(sz w10,nodeC 4 (t.pos i7) 0 0 s11 nl),(gb8,c9),((sz w)+1,zeroC),(sz w,nodeC 3 pos 1 M s1 (.slice (some ⟨gb8,0,none⟩) vs.length cp4))] ([]++(vs++[])) nl [])
      case first=>
       go_wp2_with fail
       ·go_wp2_with fail
        refine(bad64 q.st.rd).mono ?_
        rintro e w17 ⟨rfl,⟨k17,a17,hk17,h17⟩,hk17'⟩
        replace q:=((q.rk h17 hk17' (Nat.le_refl _) (fun e=>absurd e hk17)).up (g':=True) (fun _ e=>absurd e hk17)).dead (s':=(16*((j:Int) - (i:Int))+(-100))) hk17
        clear h17 hk17'
        clear c_v f_v l_v r_v c_z f_z l_z r_z c_n f_n l_n r_n
        obtain⟨c_v,f_v,l_v,r_v⟩:=q.at 0 rfl
        obtain⟨c_z,f_z,l_z,r_z⟩:=q.at 2 rfl
        obtain⟨c_n,f_n,l_n,r_n⟩:=q.at 3 rfl
        go_wp2_with fail
        go_meet
        exact⟨i14,k17,a17,(fun e=>absurd e hk17),(q.less (by omega))⟩
       ·go_wp2_with fail
        go_meet
        exact⟨i14,k14,a14,(fun e=>HO.out (ok14.out e)),(q.less (by omega))⟩
      case rest=>
       clear c_v f_v l_v r_v c_z f_z l_z r_z c_n f_n l_n r_n q
       obtain⟨j16,k16,a16,HO16,q⟩:=hcut
       obtain⟨w18,hw⟩:∃x,x=wc:=⟨_,rfl⟩
       subst hw
       obtain⟨c_v,f_v,l_v,r_v⟩:=q.at 0 rfl
       obtain⟨c_z,f_z,l_z,r_z⟩:=q.at 2 rfl
       obtain⟨c_n,f_n,l_n,r_n⟩:=q.at 3 rfl
       go_wp2_with fail
       refine((types_allZ _).2.1 q.st.rd (bd_some _ _ _ 4) _).mono ?_
       rintro e w19 ⟨ao19,cp19,vs19,i19,k19,a19,rfl,hx19,hK19,hl19,hP19,hz19⟩
       have ok19:Hid (k19=0→k16=0):=hx19.ok
       replace q:=(q.list2 hx19 hK19 hz19).up (g':=True) (fun _ e=>Nat.lt_of_le_of_lt q.le (hx19.go trivial e))
       clear hx19 hK19 hz19
       clear c_v f_v l_v r_v c_z f_z l_z r_z c_n f_n l_n r_n
       obtain⟨c_v,f_v,l_v,r_v⟩:=q.at 0 rfl
       obtain⟨c_z,f_z,l_z,r_z⟩:=q.at 2 rfl
       obtain⟨c_n,f_n,l_n,r_n⟩:=q.at 3 rfl
       have HPT:Hid (k19=0→∀y∈vs19.map labOf,tyK y):=hP19
       clear hP19
       rcases Nat.eq_zero_or_pos vs19.length with hz|hz
       ·obtain rfl:vs19=[]:=List.eq_nil_of_length_eq_zero hz
        replace q:Mz 1 w rb tb cap t j 0 True (16*((j:Int) - (i:Int))+(-63)) w19 i19 k19 a19 [(sz w10,nodeC 4 (t.pos i7) 0 0 s11 nl),(gb8,c9),((sz w)+1,zeroC),(sz w,nodeC 3 pos 1 M s1 (.slice (some ⟨gb8,0,none⟩) vs.length cp4))] ([]++([]++(vs++[]))) (.slice ao19 0 cp19) []:=q.less (by first|(simp only[List.length_nil];omega)|simp|omega)
        go_wp2_with fail
        go_loopg [7,40] 0 (fun g _ u wr=>g=0∧u=.int .i64 0∧Mz 1 w rb tb cap t j 0 True (16*((j:Int) - (i:Int))+(-63)) wr i19 k19 a19 [(sz w10,nodeC 4 (t.pos i7) 0 0 s11 nl),(gb8,c9),((sz w)+1,zeroC),(sz w,nodeC 3 pos 1 M s1 (.slice (some ⟨gb8,0,none⟩) vs.length cp4))] ([]++([]++(vs++[]))) (.slice ao19 0 cp19) [])
        case atStart=>exact⟨rfl,rfl,q⟩
        case round=>
         clear c_v f_v l_v r_v c_z f_z l_z r_z c_n f_n l_n r_n q
         obtain⟨_,rfl,q⟩:=hrel
         obtain⟨c_v,f_v,l_v,r_v⟩:=q.at 0 rfl
         obtain⟨c_z,f_z,l_z,r_z⟩:=q.at 2 rfl
         obtain⟨c_n,f_n,l_n,r_n⟩:=q.at 3 rfl
         go_wp2_with fail
         go_meet
         exact⟨nl,[],i19,k19,a19,⟨by simp,fun e=>⟨HO16.out (ok19.out e),fun x hx=>by cases hx⟩⟩,((q.toT).less (by omega))⟩
       ·obtain⟨gb20,rfl⟩:=q.shapeT hz
        obtain⟨c21,hR21,q'⟩:=q.park
        clear q
        have q:=q'
        clear q'
        clear c_v f_v l_v r_v c_z f_z l_z r_z c_n f_n l_n r_n
        obtain⟨c_v,f_v,l_v,r_v⟩:=q.at 1 rfl
        obtain⟨c_z,f_z,l_z,r_z⟩:=q.at 3 rfl
        obtain⟨c_n,f_n,l_n,r_n⟩:=q.at 4 rfl
        go_wp2_with fail
        go_loopg [7,40] vs19.length (fun g _ u wr=>∃(idx:Nat) (kw:Value) (ws:List (List Value)),g=vs19.length - idx∧u=.int .i64 idx∧idx≤vs19.length∧ws.length=idx∧(k19=0→∀y∈ws.map labOf,y=5)∧Mz 1 w rb tb cap t j 0 True (16*((j:Int) - (i:Int))+(-(vs19.length:Int))+(idx:Int)+(-63)) wr i19 k19 a19 [(gb20,c21),(sz w10,nodeC 4 (t.pos i7) 0 0 s11 kw),(gb8,c9),((sz w)+1,zeroC),(sz w,nodeC 3 pos 1 M s1 (.slice (some ⟨gb8,0,none⟩) vs.length cp4))] ([]++(vs19++(vs19.drop idx++([]++(vs++[]))))) kw ws)
        case atStart=>exact⟨0,nl,[],rfl,rfl,Nat.zero_le _,rfl,(fun _ y hy=>by cases hy),q.less (by omega)⟩
        case round=>
         clear c_v f_v l_v r_v c_z f_z l_z r_z c_n f_n l_n r_n q
         obtain⟨idx,kw,ws,hgk,rfl,hidx,hws,hw5,q⟩:=hrel
         have HG2:Hid (_=vs19.length - idx):=hgk
         clear hgk
         have HW5:Hid (k19=0→∀y∈ws.map labOf,y=5):=hw5
         clear hw5
         have hlT:vs19.length≤6002:=hl19
         have hwl:ws.length≤6002:=by omega
         have HWS:Hid (ws.length=idx):=hws
         clear hws
         obtain⟨ao22,cp22,rfl⟩:=q.shape
         obtain⟨c_v,f_v,l_v,r_v⟩:=q.at 1 rfl
         obtain⟨c_z,f_z,l_z,r_z⟩:=q.at 3 rfl
         obtain⟨c_n,f_n,l_n,r_n⟩:=q.at 4 rfl
         by_cases hlt:idx<vs19.length
         ·obtain⟨tq,tp,tn,tm,ts,tko,tkl,tkc,hidxe,hpt,hcell⟩:=q.mid.nth hR21 0 rfl (fun x hx=>by simp[hx]) hlt
          have hltI:(idx:Int)<(vs19.length:Int):=by omega
          have e0:=hcell 0 (by decide)
          have e1:=hcell 1 (by decide)
          have e2:=hcell 2 (by decide)
          have e3:=hcell 3 (by decide)
          have e4:=hcell 4 (by decide)
          have e5:=hcell 5 (by decide)
          have e6:=hcell 6 (by decide)
          have e7:=hcell 7 (by decide)
          have e8:=hcell 8 (by decide)
          have e9:=hcell 9 (by decide)
          have e10:=hcell 10 (by decide)
          clear hcell
          simp only[Nat.add_zero] at e0
          go_wp2_with (at_builtin;refine(((q.take1 (us:=vs19) (idx:=idx) (T:=([]++(vs++[]))) hidxe).ne' (sz wr) (nodeC tq tp tn tm ts (.slice tko tkl tkc))).l1 ((sz wr)+1) 5 tp 0 0 ⟨#[]⟩ hpt (by decide) (fun e=>Gr.of_field ⟨_,rfl,HPT.out e _ (List.mem_map.2 ⟨_,List.mem_of_getElem? hidxe,rfl⟩)⟩)).ap ((sz wr)+2) (Nat.le_trans hwl (by decide)) ?_;clear q c_v f_v l_v r_v c_z f_z l_z r_z c_n f_n l_n r_n e0 e1 e2 e3 e4 e5 e6 e7 e8 e9 e10;intro w23 ao23 cp23 q;obtain⟨c_tt,f_tt,l_tt,r_tt⟩:=q.at 0 rfl;obtain⟨c_v,f_v,l_v,r_v⟩:=q.at 2 rfl;obtain⟨c_z,f_z,l_z,r_z⟩:=q.at 4 rfl;obtain⟨c_n,f_n,l_n,r_n⟩:=q.at 5 rfl;obtain⟨ne_tt_v,ne_v_tt⟩:=q.ne 0 2 rfl rfl (by decide);obtain⟨ne_tt_z,ne_z_tt⟩:=q.ne 0 4 rfl rfl (by decide);obtain⟨ne_tt_n,ne_n_tt⟩:=q.ne 0 5 rfl rfl (by decide))
          go_wp2_with fail
          go_roundg (vs19.length - (idx+1))
          case measure=>rw[HG2.out];omega
          case rel=>exact⟨idx+1,(.slice ao23 (ws.length+1) cp23),(ws++[(nk 5 tp (sl ((sz wr)+1) 1)).toList]),rfl,by go_num,hlt,by simp[HWS.out],(fun e=>by rw[List.map_append];exact all_snoc (C:=fun y=>y=5) (HW5.out e) lab_field0),(q.p25 (.slice ao23 (ws.length+1) cp23)).pop.less (by omega)⟩
         ·have hltI:¬(idx:Int)<(vs19.length:Int):=by omega
          have hltD:decide ((idx:Int)<(vs19.length:Int))=false:=by simpa using hltI
          go_wp2_with fail
          go_meet
          exact⟨(.slice ao22 ws.length cp22),ws,i19,k19,a19,⟨hwl,fun e=>⟨HO16.out (ok19.out e),HW5.out e⟩⟩,(((q.pop).forget (us:=vs19) (idx:=idx) (T:=([]++(vs++[])))).less (by omega))⟩
     ·go_wp2_with fail
      go_meet
      exact⟨nl,[],i11,k11,a11,⟨by simp,fun e=>⟨HO.out e,fun x hx=>by cases hx⟩⟩,(q.less (by omega))⟩
    case rest=>
     clear c_v f_v l_v r_v c_z f_z l_z r_z c_n f_n l_n r_n q
     obtain⟨kvv,vsv,j13,k13,a13,hW,q⟩:=hcut
     obtain⟨w24,hw⟩:∃x,x=wc:=⟨_,rfl⟩
     subst hw
     obtain⟨c_v,f_v,l_v,r_v⟩:=q.at 0 rfl
     obtain⟨c_z,f_z,l_z,r_z⟩:=q.at 2 rfl
     obtain⟨c_n,f_n,l_n,r_n⟩:=q.at 3 rfl
     have HW:Hid (k13=0→nameOK s11∧∀x∈vsv.map labOf,x=5):=hW.2
     have hWl:=hW.1
     clear hW
     obtain⟨ao25,cp25,rfl⟩:=q.shape
     clear c_v f_v l_v r_v c_z f_z l_z r_z c_n f_n l_n r_n
     obtain⟨c_v,f_v,l_v,r_v⟩:=q.at 0 rfl
     obtain⟨c_z,f_z,l_z,r_z⟩:=q.at 2 rfl
     obtain⟨c_n,f_n,l_n,r_n⟩:=q.at 3 rfl
     replace q:=Mz.unpark hR9 ((q.fo 4 (t.pos i7) 0 0 s11 (Nat.le_trans hWl (by decide)) hposV (Nat.le_trans hs11 (by decide)) (fun e=>Gr.of_variant (fun x hx=>((HW.out e).2 x hx).trans (if_neg (name_size (HW.out e).1)).symm))).swapL.sub (T':=vs++[(nodeC 4 (t.pos i7) 0 0 s11 (.slice ao25 vsv.length cp25)).toList]) (fun x hx=>by simp only[List.mem_append,List.mem_cons,List.not_mem_nil,or_false,List.nil_append,List.append_nil] at hx⊢;exact hx.symm) (fun f W=>by simp only[tot_append,tot_cons,tot_nil];omega))
     have F:=q.f3
     clear c_v f_v l_v r_v c_z f_z l_z r_z c_n f_n l_n r_n
     go_wp2_with (at_builtin;refine q.ap (sz w24) (Nat.le_trans hFl (by decide)) ?_;clear q F;intro w26 ao26 cp26 q;have F:=q.f3)
     go_wp2_with fail
     refine(q.p25 (.slice ao26 (vs.length+1) cp26)).lf (is41 · 0 (by decide) _) ?_
     clear q F
     intro w27 q
     have F:=q.f3
     go_wp2_with fail
     ·go_wp2_with fail
      refine q.wn (want39 · _) ?_
      clear q F
      intro w28 i28 k28 a28 ok28 q
      have F:=q.f3
      go_wp2_with fail
      replace q:=q.pop
      go_roundg (ml t i28 k28)
      case measure=>rw[HG.out];exact ml_lt hj q.le (q.go trivial)
      case rel=>exact⟨(.slice ao26 (vs.length+1) cp26),(vs++[(nodeC 4 (t.pos i7) 0 0 s11 (.slice ao25 vsv.length cp25)).toList]),i28,k28,a28,rfl,Few.snoc (t:=t) hF rfl hj h.good (q.go trivial),⟨by simp,fun e=>by obtain⟨rs,h2,h4⟩:=HE.out.2;refine⟨rs++[4],?_,all_snoc (C:=fun f=>f=4) h4 rfl⟩;rw[List.map_append,h2];exact congrArg (fun l=>9::rs++[l]) (lab_variant (HW.out (ok28.out e)).1)⟩,q.unbase (s':= -31) (g':=True) hb1.out.1 (fun _=>hb1.out.2.1) (fun _ _=>hb1.out.2.2) (by omega)⟩
     ·go_wp2_with fail
      replace q:=q.pop
      go_roundg (ml t j13 k13)
      case measure=>rw[HG.out];exact ml_lt hj q.le (q.go trivial)
      case rel=>exact⟨(.slice ao26 (vs.length+1) cp26),(vs++[(nodeC 4 (t.pos i7) 0 0 s11 (.slice ao25 vsv.length cp25)).toList]),j13,k13,a13,rfl,Few.snoc (t:=t) hF rfl hj h.good (q.go trivial),⟨by simp,fun e=>by obtain⟨rs,h2,h4⟩:=HE.out.2;refine⟨rs++[4],?_,all_snoc (C:=fun f=>f=4) h4 rfl⟩;rw[List.map_append,h2];exact congrArg (fun l=>9::rs++[l]) (lab_variant (HW.out e).1)⟩,q.unbase (s':= -31) (g':=True) hb1.out.1 (fun _=>hb1.out.2.1) (fun _ _=>hb1.out.2.2) (by omega)⟩
   ·go_wp2_with fail
    go_light
    exact Mz.retb (C:=fun x=>x=3) (d:=8) Tryz.results43 rfl rfl ((q.fo 3 pos 1 M s1 (Nat.le_trans hF.2 (by decide)) hpos (Nat.le_trans hs1 (by decide)) (fun e=>Gr.of_data ⟨HM.out,.inr ⟨rfl,HE.out.2⟩⟩)).unbase (s':= -30) (g':=True) hb1.out.1 (fun _=>hb1.out.2.1) (fun _ _=>hb1.out.2.2) (by omega)) 0 rfl (fun _=>lab_ne (by decide)) (by omega) rfl
end Go.Proofs.YtagdihffmjopaaaGreatDoor
