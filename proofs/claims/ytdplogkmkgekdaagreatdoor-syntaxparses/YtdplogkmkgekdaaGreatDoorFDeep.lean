/- How deep a tree is, by the grammar's trees. -/
import Derived.Test.YtdplogkmkgekdaaGreatDoorFHeadB
import Derived.Test.YtdplogkmkgekdaaGreatDoorFModule
import Derived.Test.YtdplogkmkgekdaaGreatDoorGmc
set_option linter.all false
set_option maxRecDepth 100000
set_option maxHeartbeats 4000000
namespace Go.Proofs.YtdplogkmkgekdaaGreatDoor
open Go.RowKit
theorem enumF_:enumF:=by
 intro w rb tb cap i t k a h pos M hpos hM
 have HM:Hid (0≤M∧M≤3):=hM
 clear hM
 have hl:=h.l
 go_enter Tryz.func102,Tryz.ntmps102
 have q:=Mf.start (wt:=1) h
 go_wp2_with fail
 refine((q.ne' (sz w) (nodeC 3 pos 1 M ⟨#[]⟩ nl)).ne' ((sz w)+1) (zeroC)).nm name40F ?_
 clear q
 intro w1 s1 i1 k1 a1 hs1 ho1 ok1 m1 q
 have F:=q.f2
 go_wp2_with fail
 refine(q.p14 s1).nn (gensF_all · false) ?_
 clear q F
 intro w2 x2 i2 k2 a2 y2 hc2 ok2 m2 q
 have F:=q.f2
 go_wp2_with fail
 refine((q.p15 (sl (sz w2) 1)).m1 (sz w2)).wn (want39F · _) ?_
 clear q F
 intro w3 i3 k3 a3 ok3 m3 q
 have F:=q.f2
 go_wp2_with fail
 go_loopg [5,7] (ml t i3 k3) (fun g _ _ wr=>∃(v:Value) (vs:List (List Value)) (j:Nat) (kj aj:Int),g=ml t j kj∧Few 4 vs j kj∧(1≤vs.length∧(kj=0→∃rs,vs.map labOf=9::rs∧∀x∈rs,x=4))∧∃(V:List (List Nr)),Hid (∀r,EvL (fun n=>gEnumB t (gG t n 0) n) V ⟨j,kj,aj⟩ r→Ev (fun n=>gEnum t (gG t n 0) pos M n) ⟨i,k,a⟩ (nd 3 pos 1 M s1 r.1,r.2))∧Mf 1 w rb tb cap t i k True (-31) wr j kj aj [((sz w)+1,zeroC),(sz w,nodeC 3 pos 1 M s1 v)] [] v vs [] V)
 case atStart=>exact⟨(sl (sz w2) 1),[x2.t],i3,k3,a3,rfl,⟨fun _=>by simp,by simp⟩,⟨by simp,fun e=>⟨[],by show [labOf x2.t]=_;rw[hc2 (ok3.out e)],fun x hx=>by cases hx⟩⟩,_,(fun r hr=>(by unfold gEnum;exact evt)),(q.less (by omega))⟩
 case round=>
  clear F q
  obtain⟨v,vs,j,kj,aj,hgk,hF,hE,V,HE2,q⟩:=hrel
  have hj:=q.st.rd.lt
  have hposJ:(0:Int)≤(t.pos j:Int)∧(t.pos j:Int)≤7000:=by have:=h.good.posb j;omega
  have HG:Hid (gk=ml t j kj):=hgk
  clear hgk
  obtain⟨ao4,cp4,rfl⟩:=q.shape
  have F:=q.f2
  cases hk0:(kj==0)
  ·go_wp2_with fail
   refine q.lf ok21b ?_
   clear q F
   intro w5 q
   have F:=q.f2
   go_wp2_with fail
   go_light
   exact Mf.retb (C:=fun x=>x=3) (d:=8) Tryz.results102 rfl rfl (q.fo 3 pos 1 M s1 (Nat.le_trans hF.2 (by decide)) hpos (Nat.le_trans hs1 (by decide)) (fun e=>absurd e (by simpa using hk0))) 0 rfl (fun _=>lab_ne (by decide)) (by omega) rfl (HE2.out (_,_) (EvL.stop (by unfold gEnumB;exact evt)))
  ·obtain rfl:kj=0:=by simpa using hk0
   have hb1:Hid (i≤j∧k=0∧i<j):=⟨q.le,q.ok rfl,q.go trivial rfl⟩
   have HE:Hid (1≤vs.length∧∃rs,vs.map labOf=9::rs∧∀x∈rs,x=4):=⟨hE.1,hE.2 rfl⟩
   clear hE
   have hFl:vs.length≤6005:=by have:=hF.1 rfl;have:=h.good.few;omega
   replace q:=q.rebase
   go_wp2_with fail
   refine q.lf ok21b ?_
   clear q F
   intro w6 q
   have F:=q.f2
   go_wp2_with fail
   refine q.et (eat42 · _) ?_
   clear q F
   intro w7 b7 i7 hE7 m7 q
   have F:=q.f2
   go_wp2_with fail
   ·obtain⟨gb8,rfl⟩:=q.shapeT HE.out.1
    clear F
    have F:=q.f2
    have HVL:Hid (V.length=vs.length):=q.fv.len
    obtain⟨c9,hR9,q'⟩:=q.park
    clear q
    have q:=q'
    clear q'
    go_wp2_with fail
    refine q.lf (node20 · 4) ?_
    clear q F
    intro w10 q
    obtain⟨c_z,f_z,l_z,r_z⟩:=q.at 1 rfl
    obtain⟨c_n,f_n,l_n,r_n⟩:=q.at 2 rfl
    have hposV:(0:Int)≤((t.pos i7):Int)∧((t.pos i7):Int)≤7000:=by have:=h.good.posb i7;omega
    go_wp2_with fail
    refine(q.ne' (sz w10) (nk 4 (t.pos i7) nl)).nm name40F ?_
    clear q c_z f_z l_z r_z c_n f_n l_n r_n
    intro w11 s11 i11 k11 a11 hs11 ho11 ok11 m11 q
    have HO:Hid (k11=0→nameOK s11):=ho11
    clear ho11
    obtain⟨c_v,f_v,l_v,r_v⟩:=q.at 0 rfl
    obtain⟨c_z,f_z,l_z,r_z⟩:=q.at 2 rfl
    obtain⟨c_n,f_n,l_n,r_n⟩:=q.at 3 rfl
    obtain⟨ne_v_z,ne_z_v⟩:=q.ne 0 2 rfl rfl (by decide)
    obtain⟨ne_v_n,ne_n_v⟩:=q.ne 0 3 rfl rfl (by decide)
    go_wp2_with fail
    refine(q.p04 s11).lf (is41 · 0 (by decide) _) ?_
    clear q c_v f_v l_v r_v c_z f_z l_z r_z c_n f_n l_n r_n
    intro w12 q
    obtain⟨c_v,f_v,l_v,r_v⟩:=q.at 0 rfl
    obtain⟨c_z,f_z,l_z,r_z⟩:=q.at 2 rfl
    obtain⟨c_n,f_n,l_n,r_n⟩:=q.at 3 rfl
    go_upto_if 30 with fail
    go_cut [] (fun wx=>∃(kvv:Value) (vsv:List (List Value)) (j13:Nat) (k13 a13:Int),(vsv.length≤6002∧(k13=0→nameOK s11∧∀x∈vsv.map labOf,x=5))∧(∃(ks:List (List Nr)),Ev (fun n=>bnd (gIs t 0 ⟨#[40]⟩) (fun b59=>cond (b59) (seq (gWant t ⟨#[40]⟩) (bnd (gIs t 0 ⟨#[41]⟩) (fun c=>seq (cond c (gBad t) (ret ())) (gList t (gG t n 0) ⟨#[41]⟩ n)))) (ret ([])))) ⟨i11,k11,a11⟩ (ks,⟨j13,k13,a13⟩)∧Mf 1 w rb tb cap t j 0 True (16*((j:Int) - (i:Int))+(-47)) wx j13 k13 a13 [(sz w10,nodeC 4 (t.pos i7) 0 0 s11 kvv),(gb8,c9),((sz w)+1,zeroC),(sz w,nodeC 3 pos 1 M s1 (.slice (some ⟨gb8,0,none⟩) vs.length cp4))] ([]++(vs++[])) kvv vsv ([]++(V++[])) (ks.map FD)))
    case first=>
     go_wp2_with fail
     ·go_wp2_with fail
      refine q.wn (want39F · _) ?_
      clear q c_v f_v l_v r_v c_z f_z l_z r_z c_n f_n l_n r_n
      intro w14 i14 k14 a14 ok14 m14 q
      obtain⟨c_v,f_v,l_v,r_v⟩:=q.at 0 rfl
      obtain⟨c_z,f_z,l_z,r_z⟩:=q.at 2 rfl
      obtain⟨c_n,f_n,l_n,r_n⟩:=q.at 3 rfl
      go_wp2_with fail
      refine q.lf (is41 · 0 (by decide) _) ?_
      clear q c_v f_v l_v r_v c_z f_z l_z r_z c_n f_n l_n r_n
      intro w15 q
      obtain⟨c_v,f_v,l_v,r_v⟩:=q.at 0 rfl
      obtain⟨c_z,f_z,l_z,r_z⟩:=q.at 2 rfl
      obtain⟨c_n,f_n,l_n,r_n⟩:=q.at 3 rfl
      go_upto_if 34 with fail
      go_cut [] (fun wx=>∃(j16:Nat) (k16 a16:Int),Hid (k16=0→nameOK s11)∧(Ev (fun _=>cond (isB t i14 k14 0 ⟨#[41]⟩) (gBad t) (ret ())) ⟨i14,k14,a14⟩ ((),⟨j16,k16,a16⟩)∧Mf 1 w rb tb cap t j 0 True (16*((j:Int) - (i:Int))+(-63)) wx j16 k16 a16 [(sz w10,nodeC 4 (t.pos i7) 0 0 s11 nl),(gb8,c9),((sz w)+1,zeroC),(sz w,nodeC 3 pos 1 M s1 (.slice (some ⟨gb8,0,none⟩) vs.length cp4))] ([]++(vs++[])) nl [] ([]++(V++[])) []))
      case first=>
       go_wp2_with fail
       ·go_wp2_with fail
        refine(bad64F q.st.rd).mono ?_
        rintro e w17 ⟨rfl,⟨k17,a17,hk17,h17,m17⟩,hk17'⟩
        replace q:=((q.rk h17 hk17' (Nat.le_refl _) (fun e=>absurd e hk17)).up (g':=True) (fun _ e=>absurd e hk17)).dead (s':=(16*((j:Int) - (i:Int))+(-100))) hk17
        clear h17 hk17'
        clear c_v f_v l_v r_v c_z f_z l_z r_z c_n f_n l_n r_n
        obtain⟨c_v,f_v,l_v,r_v⟩:=q.at 0 rfl
        obtain⟨c_z,f_z,l_z,r_z⟩:=q.at 2 rfl
        obtain⟨c_n,f_n,l_n,r_n⟩:=q.at 3 rfl
        go_wp2_with fail
        go_meet
        exact⟨i14,k17,a17,(fun e=>absurd e hk17),evt,(q.less (by omega))⟩
       ·go_wp2_with fail
        go_meet
        exact⟨i14,k14,a14,(fun e=>HO.out (ok14.out e)),evt,(q.less (by omega))⟩
      case rest=>
       clear c_v f_v l_v r_v c_z f_z l_z r_z c_n f_n l_n r_n q
       obtain⟨j16,k16,a16,HO16,mm,q⟩:=hcut
       obtain⟨w18,hw⟩:∃x,x=wc:=⟨_,rfl⟩
       subst hw
       obtain⟨c_v,f_v,l_v,r_v⟩:=q.at 0 rfl
       obtain⟨c_z,f_z,l_z,r_z⟩:=q.at 2 rfl
       obtain⟨c_n,f_n,l_n,r_n⟩:=q.at 3 rfl
       go_wp2_with fail
       refine((types_allF _).2.1 q.st.rd (bd_some _ _ _ 4) _).mono ?_
       rintro e w19 ⟨ao19,cp19,vs19,i19,k19,a19,rfl,hx19,hK19,hl19,hP19,hz19,V19,hF19,m19⟩;have hV19:=hF19.len
       have ok19:Hid (k19=0→k16=0):=hx19.ok
       replace q:=(q.list2 hx19 hK19 hz19 hF19).up (g':=True) (fun _ e=>Nat.lt_of_le_of_lt q.le (hx19.go trivial e))
       clear hx19 hK19 hz19
       have HV19:Hid (V19.length=vs19.length):=hV19
       clear hV19
       clear c_v f_v l_v r_v c_z f_z l_z r_z c_n f_n l_n r_n
       obtain⟨c_v,f_v,l_v,r_v⟩:=q.at 0 rfl
       obtain⟨c_z,f_z,l_z,r_z⟩:=q.at 2 rfl
       obtain⟨c_n,f_n,l_n,r_n⟩:=q.at 3 rfl
       have HPT:Hid (k19=0→∀y∈vs19.map labOf,tyK y):=hP19
       clear hP19
       rcases Nat.eq_zero_or_pos vs19.length with hz|hz
       ·obtain rfl:vs19=[]:=List.eq_nil_of_length_eq_zero hz
        obtain rfl:V19=[]:=List.eq_nil_of_length_eq_zero (by have:=HV19.out;simpa using this)
        replace q:Mf 1 w rb tb cap t j 0 True (16*((j:Int) - (i:Int))+(-63)) w19 i19 k19 a19 [(sz w10,nodeC 4 (t.pos i7) 0 0 s11 nl),(gb8,c9),((sz w)+1,zeroC),(sz w,nodeC 3 pos 1 M s1 (.slice (some ⟨gb8,0,none⟩) vs.length cp4))] ([]++([]++(vs++[]))) (.slice ao19 0 cp19) [] ([]++([]++(V++[]))) []:=q.less (by first|(simp only[List.length_nil];omega)|simp|omega)
        go_wp2_with fail
        go_loopg [7,40] 0 (fun g _ u wr=>g=0∧u=.int .i64 0∧Mf 1 w rb tb cap t j 0 True (16*((j:Int) - (i:Int))+(-63)) wr i19 k19 a19 [(sz w10,nodeC 4 (t.pos i7) 0 0 s11 nl),(gb8,c9),((sz w)+1,zeroC),(sz w,nodeC 3 pos 1 M s1 (.slice (some ⟨gb8,0,none⟩) vs.length cp4))] ([]++([]++(vs++[]))) (.slice ao19 0 cp19) [] ([]++([]++(V++[]))) [])
        case atStart=>exact⟨rfl,rfl,q⟩
        case round=>
         clear c_v f_v l_v r_v c_z f_z l_z r_z c_n f_n l_n r_n q
         obtain⟨_,rfl,q⟩:=hrel
         obtain⟨c_v,f_v,l_v,r_v⟩:=q.at 0 rfl
         obtain⟨c_z,f_z,l_z,r_z⟩:=q.at 2 rfl
         obtain⟨c_n,f_n,l_n,r_n⟩:=q.at 3 rfl
         go_wp2_with fail
         go_meet
         exact⟨nl,[],i19,k19,a19,⟨by simp,fun e=>⟨HO16.out (ok19.out e),fun x hx=>by cases hx⟩⟩,[],evt,((q.toT).less (by omega))⟩
       ·obtain⟨gb20,rfl⟩:=q.shapeT hz
        obtain⟨c21,hR21,q'⟩:=q.park
        clear q
        have q:=q'
        clear q'
        clear c_v f_v l_v r_v c_z f_z l_z r_z c_n f_n l_n r_n
        obtain⟨c_v,f_v,l_v,r_v⟩:=q.at 1 rfl
        obtain⟨c_z,f_z,l_z,r_z⟩:=q.at 3 rfl
        obtain⟨c_n,f_n,l_n,r_n⟩:=q.at 4 rfl
        go_wp2_with fail
        go_loopg [7,40] vs19.length (fun g _ u wr=>∃(idx:Nat) (kw:Value) (ws:List (List Value)),g=vs19.length - idx∧u=.int .i64 idx∧idx≤vs19.length∧ws.length=idx∧(k19=0→∀y∈ws.map labOf,y=5)∧Mf 1 w rb tb cap t j 0 True (16*((j:Int) - (i:Int))+(-(vs19.length:Int))+(idx:Int)+(-63)) wr i19 k19 a19 [(gb20,c21),(sz w10,nodeC 4 (t.pos i7) 0 0 s11 kw),(gb8,c9),((sz w)+1,zeroC),(sz w,nodeC 3 pos 1 M s1 (.slice (some ⟨gb8,0,none⟩) vs.length cp4))] ([]++(vs19++(vs19.drop idx++([]++(vs++[]))))) kw ws ([]++(V19++(V19.drop idx++([]++(V++[]))))) ((V19.take idx).map FD))
        case atStart=>exact⟨0,nl,[],rfl,rfl,Nat.zero_le _,rfl,(fun _ y hy=>by cases hy),q.less (by omega)⟩
        case round=>
         clear c_v f_v l_v r_v c_z f_z l_z r_z c_n f_n l_n r_n q
         obtain⟨idx,kw,ws,hgk,rfl,hidx,hws,hw5,q⟩:=hrel
         have HG2:Hid (_=vs19.length - idx):=hgk
         clear hgk
         have HW5:Hid (k19=0→∀y∈ws.map labOf,y=5):=hw5
         clear hw5
         have hlT:vs19.length≤6002:=hl19
         have hwl:ws.length≤6002:=by omega
         have HWS:Hid (ws.length=idx):=hws
         clear hws
         obtain⟨ao22,cp22,rfl⟩:=q.shape
         obtain⟨c_v,f_v,l_v,r_v⟩:=q.at 1 rfl
         obtain⟨c_z,f_z,l_z,r_z⟩:=q.at 3 rfl
         obtain⟨c_n,f_n,l_n,r_n⟩:=q.at 4 rfl
         by_cases hlt:idx<vs19.length
         ·obtain⟨tq,tp,tn,tm,ts,tko,tkl,tkc,hidxe,hpt,hcell⟩:=q.z.mid.nth hR21 0 rfl (fun x hx=>by simp[hx]) hlt
          have hltI:(idx:Int)<(vs19.length:Int):=by omega
          have e0:=hcell 0 (by decide)
          have e1:=hcell 1 (by decide)
          have e2:=hcell 2 (by decide)
          have e3:=hcell 3 (by decide)
          have e4:=hcell 4 (by decide)
          have e5:=hcell 5 (by decide)
          have e6:=hcell 6 (by decide)
          have e7:=hcell 7 (by decide)
          have e8:=hcell 8 (by decide)
          have e9:=hcell 9 (by decide)
          have e10:=hcell 10 (by decide)
          clear hcell
          simp only[Nat.add_zero] at e0
          obtain⟨y22,hy22,q22⟩:=q.take1 (us:=vs19) (U:=V19) (idx:=idx) (T:=([]++(vs++[]))) HV19.out hidxe
          have HT22:Hid ((V19.take idx).map FD++[nd 5 tp 0 0 E0 [y22]]=(V19.take (idx+1)).map FD):=(by rw[FD_of (Fl.head q22.fT)];exact FD_take hy22)
          clear hy22
          go_wp2_with (at_builtin;refine((q22.ne' (sz wr) (nodeC tq tp tn tm ts (.slice tko tkl tkc))).l1 ((sz wr)+1) 5 tp 0 0 ⟨#[]⟩ hpt (by decide) (fun e=>Gr.of_field ⟨_,rfl,HPT.out e _ (List.mem_map.2 ⟨_,List.mem_of_getElem? hidxe,rfl⟩)⟩)).ap ((sz wr)+2) (Nat.le_trans hwl (by decide)) ?_;clear q q22 c_v f_v l_v r_v c_z f_z l_z r_z c_n f_n l_n r_n e0 e1 e2 e3 e4 e5 e6 e7 e8 e9 e10;intro w23 ao23 cp23 q;obtain⟨c_tt,f_tt,l_tt,r_tt⟩:=q.at 0 rfl;obtain⟨c_v,f_v,l_v,r_v⟩:=q.at 2 rfl;obtain⟨c_z,f_z,l_z,r_z⟩:=q.at 4 rfl;obtain⟨c_n,f_n,l_n,r_n⟩:=q.at 5 rfl;obtain⟨ne_tt_v,ne_v_tt⟩:=q.ne 0 2 rfl rfl (by decide);obtain⟨ne_tt_z,ne_z_tt⟩:=q.ne 0 4 rfl rfl (by decide);obtain⟨ne_tt_n,ne_n_tt⟩:=q.ne 0 5 rfl rfl (by decide))
          go_wp2_with fail
          go_roundg (vs19.length - (idx+1))
          case measure=>rw[HG2.out];omega
          case rel=>exact⟨idx+1,(.slice ao23 (ws.length+1) cp23),(ws++[(nk 5 tp (sl ((sz wr)+1) 1)).toList]),rfl,by go_num,hlt,by simp[HWS.out],(fun e=>by rw[List.map_append];exact all_snoc (C:=fun y=>y=5) (HW5.out e) lab_field0),(by rw[←HT22.out];exact(q.p25 (.slice ao23 (ws.length+1) cp23)).pop.less (by omega))⟩
         ·have hltI:¬(idx:Int)<(vs19.length:Int):=by omega
          have hltD:decide ((idx:Int)<(vs19.length:Int))=false:=by simpa using hltI
          go_wp2_with fail
          go_meet
          exact⟨(.slice ao22 ws.length cp22),ws,i19,k19,a19,⟨hwl,fun e=>⟨HO16.out (ok19.out e),HW5.out e⟩⟩,V19,evt,(by rw[show V19.map FD=(V19.take idx).map FD by rw[List.take_of_length_le (by have:=HV19.out;omega)]];exact(((q.pop).forget (us:=vs19) (U:=V19) (idx:=idx) (T:=([]++(vs++[]))) HV19.out).less (by omega)))⟩
     ·go_wp2_with fail
      go_meet
      exact⟨nl,[],i11,k11,a11,⟨by simp,fun e=>⟨HO.out e,fun x hx=>by cases hx⟩⟩,[],evt,(q.less (by omega))⟩
    case rest=>
     clear c_v f_v l_v r_v c_z f_z l_z r_z c_n f_n l_n r_n q
     obtain⟨kvv,vsv,j13,k13,a13,hW,ks,mv,q⟩:=hcut
     obtain⟨w24,hw⟩:∃x,x=wc:=⟨_,rfl⟩
     subst hw
     obtain⟨c_v,f_v,l_v,r_v⟩:=q.at 0 rfl
     obtain⟨c_z,f_z,l_z,r_z⟩:=q.at 2 rfl
     obtain⟨c_n,f_n,l_n,r_n⟩:=q.at 3 rfl
     have HW:Hid (k13=0→nameOK s11∧∀x∈vsv.map labOf,x=5):=hW.2
     have hWl:=hW.1
     clear hW
     obtain⟨ao25,cp25,rfl⟩:=q.shape
     clear c_v f_v l_v r_v c_z f_z l_z r_z c_n f_n l_n r_n
     obtain⟨c_v,f_v,l_v,r_v⟩:=q.at 0 rfl
     obtain⟨c_z,f_z,l_z,r_z⟩:=q.at 2 rfl
     obtain⟨c_n,f_n,l_n,r_n⟩:=q.at 3 rfl
     replace q:=Mf.unpark hR9 ((q.fo 4 (t.pos i7) 0 0 s11 (Nat.le_trans hWl (by decide)) hposV (Nat.le_trans hs11 (by decide)) (fun e=>Gr.of_variant (fun x hx=>((HW.out e).2 x hx).trans (if_neg (name_size (HW.out e).1)).symm))).swapL.unrot) HVL.out
     have F:=q.f3
     clear c_v f_v l_v r_v c_z f_z l_z r_z c_n f_n l_n r_n
     go_wp2_with (at_builtin;refine q.ap (sz w24) (Nat.le_trans hFl (by decide)) ?_;clear q F;intro w26 ao26 cp26 q;have F:=q.f3)
     go_wp2_with fail
     refine(q.p25 (.slice ao26 (vs.length+1) cp26)).lf (is41 · 0 (by decide) _) ?_
     clear q F
     intro w27 q
     have F:=q.f3
     go_wp2_with fail
     ·go_wp2_with fail
      refine q.wn (want39F · _) ?_
      clear q F
      intro w28 i28 k28 a28 ok28 m28 q
      have F:=q.f3
      go_wp2_with fail
      replace q:=q.pop
      go_roundg (ml t i28 k28)
      case measure=>rw[HG.out];exact ml_lt hj q.le (q.go trivial)
      case rel=>exact⟨(.slice ao26 (vs.length+1) cp26),(vs++[(nodeC 4 (t.pos i7) 0 0 s11 (.slice ao25 vsv.length cp25)).toList]),i28,k28,a28,rfl,Few.snoc (t:=t) hF rfl hj h.good (q.go trivial),⟨by simp,fun e=>by obtain⟨rs,h2,h4⟩:=HE.out.2;refine⟨rs++[4],?_,all_snoc (C:=fun f=>f=4) h4 rfl⟩;rw[List.map_append,h2];exact congrArg (fun l=>9::rs++[l]) (lab_variant (HW.out (ok28.out e)).1)⟩,_,(fun r hr=>HE2.out r (EvL.on (by unfold gEnumB;exact evt) hr)),q.unbase (s':= -31) (g':=True) hb1.out.1 (fun _=>hb1.out.2.1) (fun _ _=>hb1.out.2.2) (by omega)⟩
     ·go_wp2_with fail
      replace q:=q.pop
      go_roundg (ml t j13 k13)
      case measure=>rw[HG.out];exact ml_lt hj q.le (q.go trivial)
      case rel=>exact⟨(.slice ao26 (vs.length+1) cp26),(vs++[(nodeC 4 (t.pos i7) 0 0 s11 (.slice ao25 vsv.length cp25)).toList]),j13,k13,a13,rfl,Few.snoc (t:=t) hF rfl hj h.good (q.go trivial),⟨by simp,fun e=>by obtain⟨rs,h2,h4⟩:=HE.out.2;refine⟨rs++[4],?_,all_snoc (C:=fun f=>f=4) h4 rfl⟩;rw[List.map_append,h2];exact congrArg (fun l=>9::rs++[l]) (lab_variant (HW.out e).1)⟩,_,(fun r hr=>HE2.out r (EvL.on (by unfold gEnumB;exact evt) hr)),q.unbase (s':= -31) (g':=True) hb1.out.1 (fun _=>hb1.out.2.1) (fun _ _=>hb1.out.2.2) (by omega)⟩
   ·go_wp2_with fail
    go_light
    exact Mf.retb (C:=fun x=>x=3) (d:=8) Tryz.results102 rfl rfl ((q.fo 3 pos 1 M s1 (Nat.le_trans hF.2 (by decide)) hpos (Nat.le_trans hs1 (by decide)) (fun e=>Gr.of_data ⟨HM.out,.inr ⟨rfl,HE.out.2⟩⟩)).unbase (s':= -30) (g':=True) hb1.out.1 (fun _=>hb1.out.2.1) (fun _ _=>hb1.out.2.2) (by omega)) 0 rfl (fun _=>lab_ne (by decide)) (by omega) rfl (HE2.out (_,_) (EvL.stop (by unfold gEnumB;exact evt)))
end Go.Proofs.YtdplogkmkgekdaaGreatDoor
namespace Go.Proofs.YtdplogkmkgekdaaGreatDoor
def sibs (st:Nr→List Nr→Option Int × List Nr):Nat→List Nr→Option Int × List Nr
 |0,l=>(none,l)
 |_+1,[]=>(none,[])
 |c+1,z::l=>match st z l with
  |(some p,l2)=>(some p,l2)
  |(none,l2)=>sibs st c l2
def deepN:Nat→Int→Nat→List Nr→Option Int × List Nr
 |0,_,_,l=>(none,l)
 |f+1,d,c,l=>sibs (fun z l=>if 80<d then(some z.p,l) else deepN f (d+1) z.c l) c l
theorem deepN_zero (f:Nat) (d:Int) (l:List Nr):deepN f d 0 l=(none,l):=by
 cases f<;>rfl
def Dp (xs:List (List Nr)) (d:Int) (o:Option Int):Prop:=∃n0,∀n,n0≤n→∀c rest,(o=none→deepN n d (xs.length+c) (xs.flatten++rest)=deepN n d c rest)∧∀p,o=some p→(deepN n d (xs.length+c) (xs.flatten++rest)).1=some p
theorem Dp.nil {d:Int}:Dp [] d none:=⟨0,fun n _ c rest=>⟨fun _=>by simp,fun p h=>by cases h⟩⟩
theorem Dp.app {xs ys:List (List Nr)} {d:Int} {o:Option Int} (h1:Dp xs d none) (h2:Dp ys d o):Dp (xs++ys) d o:=by
 obtain⟨a,ha⟩:=h1
 obtain⟨b,hb⟩:=h2
 refine⟨max a b,fun n hn c rest=>?_⟩
 have e:deepN n d ((xs++ys).length+c) ((xs++ys).flatten++rest)=deepN n d (ys.length+c) (ys.flatten++rest):=by
  have:=(ha n (Nat.le_trans (Nat.le_max_left _ _) hn) (ys.length+c) (ys.flatten++rest)).1 rfl
  rw[←this,List.length_append,List.flatten_append,List.append_assoc,Nat.add_assoc]
 rw[e]
 exact hb n (Nat.le_trans (Nat.le_max_right _ _) hn) c rest
theorem Dp.more {xs ys:List (List Nr)} {d p:Int} (h:Dp xs d (some p)):Dp (xs++ys) d (some p):=by
 obtain⟨a,ha⟩:=h
 refine⟨a,fun n hn c rest=>⟨fun e=>(by cases e),fun q e=>?_⟩⟩
 have:=(ha n hn (ys.length+c) (ys.flatten++rest)).2 q e
 rw[List.length_append,List.flatten_append,List.append_assoc,Nat.add_assoc]
 exact this
theorem Dp.node {ks:List (List Nr)} {d k p n m:Int} {s:ByteArray} {o:Option Int} (hd:¬80<d) (h:Dp ks (d+1) o):Dp [nd k p n m s ks] d o:=by
 obtain⟨a,ha⟩:=h
 refine⟨a+1,fun f hf c rest=>?_⟩
 obtain⟨f,rfl⟩:∃m,f=m+1:=⟨f - 1,by omega⟩
 have h0:=ha f (by omega) 0 rest
 rw[Nat.add_zero] at h0
 have e:deepN (f+1) d ([nd k p n m s ks].length+c) ([nd k p n m s ks].flatten++rest)=match deepN f (d+1) ks.length (ks.flatten++rest) with
  |(some q,l2)=>(some q,l2)
  |(none,l2)=>deepN (f+1) d c l2:=by
  show sibs _ (1+c) _=_
  rw[Nat.add_comm 1 c]
  unfold nd
  simp only[List.flatten_cons,List.flatten_nil,List.append_nil,List.cons_append]
  show(match(if 80<d then _ else deepN f (d+1) ks.length (ks.flatten++rest)) with
   |(some p,l2)=>(some p,l2)
   |(none,l2)=>sibs _ c l2)=_
  rw[if_neg hd]
  rfl
 rw[e]
 refine⟨fun ho=>?_,fun q ho=>?_⟩
 ·rw[h0.1 ho,deepN_zero]
 ·have h1:=h0.2 q ho
  cases hx:deepN f (d+1) ks.length (ks.flatten++rest) with
  |mk u l2=>
   rw[hx] at h1
   obtain rfl:u=some q:=h1
   rfl
theorem Dp.deep {ks:List (List Nr)} {d k p n m:Int} {s:ByteArray} (hd:80<d):Dp [nd k p n m s ks] d (some p):=by
 refine⟨1,fun f hf c rest=>⟨fun e=>(by cases e),fun q e=>?_⟩⟩
 obtain⟨f,rfl⟩:∃m,f=m+1:=⟨f - 1,by omega⟩
 obtain rfl:p=q:=Option.some.inj e
 show(sibs _ (1+c) _).1=_
 rw[Nat.add_comm 1 c]
 unfold nd
 simp only[List.flatten_cons,List.flatten_nil,List.append_nil,List.cons_append]
 show(match(if 80<d then(some p,ks.flatten++rest) else _) with
  |(some p,l2)=>(some p,l2)
  |(none,l2)=>sibs _ c l2).1=_
 rw[if_pos hd]
end Go.Proofs.YtdplogkmkgekdaaGreatDoor
namespace Go.Proofs.YtdplogkmkgekdaaGreatDoor
open Go.RowKit
theorem flat_stable {S:Nat→Prop} {g:Prop} {w:World}:(h:Nat)→(cs:List Value)→isNode S g h w cs→∀f,h≤f→flat f w cs=flat h w cs
 |0,_,hn,_,_=>absurd hn (fun x=>x)
 |_+1,_,_,0,hf=>absurd hf (by omega)
 |h+1,_,⟨kind,pos,n,m,name,kv,vs,h1,h2,h3,h3',h4,h5,h6,h7⟩,f+1,hf=>by
  subst h1
  rw[flat_eq h4 h6,flat_eq h4 h6]
  have:vs.map (flat f w)=vs.map (flat h w):=List.map_congr_left (fun x hx=>flat_stable h x (h6 x hx) f (by omega))
  rw[this]
theorem isNode.fl {S:Nat→Prop} {g:Prop} {w:World} {h:Nat} {cs:List Value} (hn:isNode S g h w cs):Fl w [cs] [flat h w cs]:=⟨h,fun f hf=>by simp only[List.map_cons,List.map_nil];rw[flat_stable h cs hn f hf]⟩
theorem Fl.one1 {w:World} {c:List Value} {x y:List Nr} (h1:Fl w [c] [x]) (h2:Fl w [c] [y]):x=y:=by
 obtain⟨a,ha⟩:=h1
 obtain⟨b,hb⟩:=h2
 have e1:=ha (max a b) (Nat.le_max_left _ _)
 have e2:=hb (max a b) (Nat.le_max_right _ _)
 rw[e1] at e2
 exact(List.cons.inj e2).1
theorem isNode.kidF {S:Nat→Prop} {g:Prop} {h:Nat} {w:World} {kind pos n m:Int} {name:ByteArray} {ko:Option Addr} {kl kc:Nat} (hn:isNode S g (h+1) w (nodeC kind pos n m name (.slice ko kl kc)).toList) {y:List Nr} (hy:Fl w [(nodeC kind pos n m name (.slice ko kl kc)).toList] [y]):∃F:List (List Nr),y=nd kind pos n m name F∧F.length=kl∧(0≤pos∧pos≤7000)∧kl≤20000∧∀idx,idx<kl→∃gb,ko=some ⟨gb,0,none⟩∧S gb∧gb<w.heap.size∧∃kind pos n m name ko kl kc,isNode S g h w (nodeC kind pos n m name (.slice ko kl kc)).toList∧(∀o,o<11→w.cell? ⟨gb,idx*11+o,none⟩=(nodeC kind pos n m name (.slice ko kl kc))[o]?)∧∃y2,F[idx]? =some y2∧Fl w [(nodeC kind pos n m name (.slice ko kl kc)).toList] [y2]:=by
 have hst:=hn.fl
 obtain⟨kind',pos',n',m',name',kv,vs,e1,e2,e3,e3',e4,e5,e6,e7⟩:=hn
 simp only[Array.toList_inj] at e1
 have e1':(kind=kind'∧n=n'∧m=m'∧name=name')∧pos=pos'∧Value.slice ko kl kc=kv:=by simp at e1;exact⟨⟨e1.1,e1.2.2.1,e1.2.2.2.1,e1.2.2.2.2.1⟩,e1.2.1,e1.2.2.2.2.2⟩
 obtain⟨⟨rfl,rfl,rfl,rfl⟩,rfl,rfl⟩:=e1'
 have hkl:kl=vs.length:=by
  rcases e4.2 with⟨x1,x2⟩|⟨x,y,z,x1,_⟩
  ·simp at x1;omega
  ·simp at x1;omega
 have hyF:y=nd kind pos n m name (vs.map (flat h w)):=(Fl.one1 hy hst).trans (flat_eq e4 e6)
 refine⟨vs.map (flat h w),hyF,by simp[hkl],e3,by omega,fun idx hidx=>?_⟩
 have hi:idx<vs.length:=by omega
 have hx:vs[idx]? =some vs[idx]:=List.getElem?_eq_getElem hi
 have hm:vs[idx]∈vs:=List.getElem_mem hi
 have hk:=e6 _ hm
 have h11:∀x∈vs,x.length=11:=fun x hx=>(isNode.ones _ _ (e6 x hx)).1
 rcases e4.2 with⟨x1,x2⟩|⟨gb,cap,cur,x1,hb,hg,hnc,hcm,hcs,htake⟩
 ·omega
 ·obtain⟨rfl,-,rfl⟩:ko=some ⟨gb,0,none⟩∧kl=vs.length∧kc=cap:=by simpa using x1
  refine⟨gb,rfl,e5 gb rfl,(Array.getElem?_eq_some_iff.1 hg).1,?_⟩
  cases h with
  |zero=>exact absurd hk (fun x=>x)
  |succ h=>
   have hk':=hk
   obtain⟨kind,pos,n,m,name,kv',vs',f1,f2,f3,f3',f4,f5,f6,f7⟩:=hk
   have hsh:∃ko kl kc,kv'=.slice ko kl kc:=by
    rcases f4.2 with⟨x1,_⟩|⟨x,y,z,x1,_⟩
    ·exact⟨_,_,_,x1⟩
    ·exact⟨_,_,_,x1⟩
   obtain⟨ko',kl',kc',rfl⟩:=hsh
   refine⟨kind,pos,n,m,name,ko',kl',kc',f1▸hk',fun o ho=>?_,flat (h+1) w (nodeC kind pos n m name (.slice ko' kl' kc')).toList,by rw[List.getElem?_map,hx,f1];rfl,(f1▸hk':isNode S g (h+1) w (nodeC kind pos n m name (.slice ko' kl' kc')).toList).fl⟩
   have hg2:=flat_get h11 hx o ho
   have hlt:idx*11+o<vs.length*11:=by omega
   rw[cell_of_row w gb (idx*11+o) cur 28 (0,0) hg]
   have e8:(cur.toList.take (vs.length*11))[idx*11+o]? =cur[idx*11+o]? :=by rw[List.getElem?_take,if_pos hlt];simp
   rw[←e8,htake,hg2,f1]
   simp
def DeepP (w:World) (y:List Nr) (d:Int) (e:Ending) (w':World):Prop:=∃r:Int,e=.returned (.int .i64 r)∧(-1≤r∧r≤7000)∧Below w.heap.size w w'∧(r= -1∧Dp [y] d none∨0≤r∧Dp [y] d (some r))
theorem deepF {g:Prop}:(h:Nat)→∀{S:Nat→Prop} {w:World} {kind pos n m:Int} {name:ByteArray} {ko:Option Addr} {kl kc:Nat},isNode S g h w (nodeC kind pos n m name (.slice ko kl kc)).toList→∀{y:List Nr},Fl w [(nodeC kind pos n m name (.slice ko kl kc)).toList] [y]→∀d:Int,0≤d→d≤100→Calls Tryz.prog 21 #[.agg (nodeC kind pos n m name (.slice ko kl kc)),.int .i64 d] w (DeepP w y d)
 |0,_,_,_,_,_,_,_,_,_,_,hn,_,_=>absurd hn (fun x=>x)
 |h+1,S,w,kind,pos,n,m,name,ko,kl,kc,hn,y,hy=>by
  intro d hd0 hd
  obtain⟨FF,hyF,hFl,hp,hkl,hkid⟩:=hn.kidF hy
  have HYF:Hid (y=nd kind pos n m name FF∧FF.length=kl):=⟨hyF,hFl⟩
  clear hyF hFl hy
  have IH:Hid (∀{S:Nat→Prop} {w:World} {kind pos n m:Int} {name:ByteArray} {ko:Option Addr} {kl kc:Nat},isNode S g h w (nodeC kind pos n m name (.slice ko kl kc)).toList→∀{y:List Nr},Fl w [(nodeC kind pos n m name (.slice ko kl kc)).toList] [y]→∀d:Int,0≤d→d≤100→Calls Tryz.prog 21 #[.agg (nodeC kind pos n m name (.slice ko kl kc)),.int .i64 d] w (DeepP w y d)):=deepF h
  have HK:Hid (∀idx,idx<kl→∃gb,ko=some ⟨gb,0,none⟩∧S gb∧gb<w.heap.size∧∃kind pos n m name ko kl kc,isNode S g h w (nodeC kind pos n m name (.slice ko kl kc)).toList∧(∀o,o<11→w.cell? ⟨gb,idx*11+o,none⟩=(nodeC kind pos n m name (.slice ko kl kc))[o]?)∧∃y2,FF[idx]? =some y2∧Fl w [(nodeC kind pos n m name (.slice ko kl kc)).toList] [y2]):=hkid
  clear hkid hn
  by_cases h80:80<d
  ·go_enter Tryz.func21,Tryz.ntmps21
   go_wp2_with fail
   go_ret
   exact⟨pos,rfl,by omega,(Below.refl _ _).alloc (Nat.le_refl _) _,.inr ⟨hp.1,by rw[HYF.out.1];exact Dp.deep h80⟩⟩
  ·have h80':decide (80<d)=false:=by simpa using h80
   go_enter Tryz.func21,Tryz.ntmps21
   go_wp2_with fail
   go_loopg [6,7,15] kl (fun gg _ _ u wr=>∃idx:Nat,gg=kl - idx∧u=.int .i64 idx∧idx≤kl∧Below w.heap.size w wr∧Hid (Dp (FF.take idx) (d+1) none))
   case atStart=>exact⟨0,rfl,rfl,Nat.zero_le _,(Below.refl _ _).alloc (Nat.le_refl _) _,Dp.nil⟩
   case round=>
    obtain⟨idx,hgk,rfl,hidx,hb,HD⟩:=hrel
    have HG:Hid (gk=kl - idx):=hgk
    clear hgk
    by_cases hlt:idx<kl
    ·obtain⟨gb,rfl,hS,hgb,kind2,pos2,n2,m2,name2,ko2,kl2,kc2,hk2,hcell,y2,hy2,hfl2⟩:=HK.out idx hlt
     have HY2:Hid (FF[idx]? =some y2):=hy2
     clear hy2
     have hltI:(idx:Int)<(kl:Int):=by omega
     have hbs:=hb.size
     have hgr:gb<wr.heap.size:=by omega
     have ec:∀o,o<11→wr.cell? ⟨gb,idx*11+o,none⟩=(nodeC kind2 pos2 n2 m2 name2 (.slice ko2 kl2 kc2))[o]? :=fun o ho=>(hb.cell (p:=⟨gb,idx*11+o,none⟩) hgb).trans (hcell o ho)
     clear hcell
     have e0:=ec 0 (by decide)
     have e1:=ec 1 (by decide)
     have e2:=ec 2 (by decide)
     have e3:=ec 3 (by decide)
     have e4:=ec 4 (by decide)
     have e5:=ec 5 (by decide)
     have e6:=ec 6 (by decide)
     have e7:=ec 7 (by decide)
     have e8:=ec 8 (by decide)
     have e9:=ec 9 (by decide)
     have e10:=ec 10 (by decide)
     clear ec
     simp only[Nat.add_zero] at e0
     have hk3:isNode (fun b=>S b∧b<w.heap.size) g h (wr.alloc (.cells (nodeC kind2 pos2 n2 m2 name2 (.slice ko2 kl2 kc2)) 28)) (nodeC kind2 pos2 n2 m2 name2 (.slice ko2 kl2 kc2)).toList:=isNode.frame (Same.alloc _ _ _) _ _ (isNode.frame (fun b hb' _=>hb.block b hb'.2) _ _ (isNode.low _ _ hk2))
     have hfl3:Fl (wr.alloc (.cells (nodeC kind2 pos2 n2 m2 name2 (.slice ko2 kl2 kc2)) 28)) [(nodeC kind2 pos2 n2 m2 name2 (.slice ko2 kl2 kc2)).toList] [y2]:=hfl2.cong (fun f=>by simp only[List.map_cons,List.map_nil];rw[flat_frame (S:=fun b=>S b∧b<w.heap.size) (Same.alloc _ _ _) h _ (isNode.frame (fun b hb' _=>hb.block b hb'.2) _ _ (isNode.low _ _ hk2)) f,flat_frame (S:=fun b=>S b∧b<w.heap.size) (fun b hb' _=>hb.block b hb'.2) h _ (isNode.low _ _ hk2) f])
     have hsnoc:FF.take (idx+1)=FF.take idx++[y2]:=by rw[List.take_add_one,HY2.out];rfl
     have HSN:Hid (FF.take (idx+1)=FF.take idx++[y2]):=hsnoc
     clear hsnoc hfl2
     go_wp2_with fail
     refine(IH.out hk3 hfl3 _ (by omega) (by omega)).mono ?_
     rintro e w2 ⟨r,rfl,hr,hb2,hD2⟩
     have HD2:Hid (r= -1∧Dp [y2] (d+1) none∨0≤r∧Dp [y2] (d+1) (some r)):=hD2
     clear hD2
     have hb3:Below w.heap.size w w2:=(hb.alloc hb.size _).trans (hb2.mono (by simp;omega))
     by_cases hr0:0≤r
     ·go_wp2_with fail
      go_ret
      exact⟨r,rfl,hr,hb3,.inr ⟨hr0,by
       have h1:Dp [y2] (d+1) (some r):=by
        rcases HD2.out with h1|h1
        ·exact absurd hr0 (by omega)
        ·exact h1.2
       have h2:Dp (FF.take (idx+1)) (d+1) (some r):=by rw[HSN.out];exact HD.out.app h1
       have h3:Dp FF (d+1) (some r):=by rw[←List.take_append_drop (idx+1) FF];exact h2.more
       rw[HYF.out.1]
       exact Dp.node (by omega) h3⟩⟩
     ·have hr0':decide (0≤r)=false:=by simpa using hr0
      go_wp2_with fail
      go_roundg (kl - (idx+1))
      case measure=>rw[HG.out];omega
      case rel=>exact⟨idx+1,rfl,by go_num,hlt,hb3,by
       show Dp _ _ _
       rw[HSN.out]
       rcases HD2.out with h1|h1
       ·exact HD.out.app h1.2
       ·exact absurd h1.1 (by omega)⟩
    ·have hltI:¬(idx:Int)<(kl:Int):=by omega
     have hltD:decide ((idx:Int)<(kl:Int))=false:=by simpa using hltI
     go_wp2_with fail
     go_ret
     exact⟨-1,rfl,by omega,hb,.inl ⟨rfl,by
      have h1:FF.take idx=FF:=List.take_of_length_le (by have:=HYF.out.2;omega)
      have h2:=HD.out
      rw[h1] at h2
      rw[HYF.out.1]
      exact Dp.node (by omega) h2⟩⟩
end Go.Proofs.YtdplogkmkgekdaaGreatDoor
