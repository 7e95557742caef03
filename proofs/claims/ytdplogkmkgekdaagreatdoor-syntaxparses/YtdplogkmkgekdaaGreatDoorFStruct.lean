/- struct. -/
import Derived.Test.YtdplogkmkgekdaaGreatDoorFHeadB
set_option linter.all false
set_option maxRecDepth 100000
set_option maxHeartbeats 4000000
namespace Go.Proofs.YtdplogkmkgekdaaGreatDoor
open Go.RowKit
theorem implF {w:World} {rb tb cap i:Nat} {t:Tk} {k a:Int} (h:Rd w rb tb cap t i k a):Calls Tryz.prog 100 #[.pointer (some ⟨rb,0,none⟩)] w (NodeF 1 w rb tb cap t i k a True 8 (fun x=>x=7) (fun n=>gImpl t (gG t n 0) (gG t n 3) n)):=by
 have hl:=h.l
 have hposI:(0:Int)≤(t.pos i:Int)∧(t.pos i:Int)≤7000:=by have:=h.good.posb i;omega
 go_enter Tryz.func100,Tryz.ntmps100
 have q:=Mf.start (wt:=1) h
 go_wp2_with fail
 refine(q.ne' (sz w) (zeroC)).lf (node20 · 7) ?_
 clear q
 intro w1 q
 have F:=q.f1
 go_wp2_with fail
 refine(q.ne' (sz w1) (nk 7 (t.pos i) nl)).wn (want39F · _) ?_
 clear q F
 intro w2 i2 k2 a2 ok2 m2 q
 have F:=q.f2
 go_wp2_with fail
 refine q.nn (gensF_all · true) ?_
 clear q F
 intro w3 x3 i3 k3 a3 y3 hc3 ok3 m3 q
 have F:=q.f2
 go_wp2_with fail
 refine(q.ne' (sz w3) x3.a).nm (path80F · 2 (by decide) (by decide)) ?_
 clear q F
 intro w4 s4 i4 k4 a4 hs4 ho4 ok4 m4 q
 have F:=q.f3
 go_wp2_with fail
 refine(q.p14 s4).wn (want39F · _) ?_
 clear q F
 intro w5 i5 k5 a5 ok5 m5 q
 have F:=q.f3
 go_upto_region 6 with fail
 go_cut [] (fun wx=>∃(kv:Value) (vs:List (List Value)) (j6:Nat) (k6 a6:Int),(vs.length=2∧(k6=0→pathOK 2 s4∧∃x,vs.map labOf=[9,x]∧tyK x))∧(∃(ye:List Nr),Ev (fun n=>gG t n 0) ⟨i5,k5,a5⟩ (ye,⟨j6,k6,a6⟩)∧Mf 1 w rb tb cap t i k True (-55) wx j6 k6 a6 [(sz w3,x3.a),(sz w1,nodeC 7 (t.pos i) 0 0 s4 kv),(sz w,zeroC)] [] kv vs [] [y3,ye]))
 case first=>
  go_wp2_with fail
  go_region_law (go_simp;refine q.drew.nd (typ_anyF _ · (bd_some _ _ _ 3)) ?_;clear q F;intro w7 x7 i7 k7 a7 y7 hc7 ok7 m7 q;have F:=q.f3)
  all_goals
   go_wp2_with fail
   go_meet
   exact⟨(sl (sz w7) 2),[x3.t,x7.t],i7,k7,a7,⟨rfl,fun e=>⟨ho4 (ok5.out (ok7.out e)),_,by show [labOf x3.t,_]=_;rw[hc3 (ok4.out (ok5.out (ok7.out e)))],hc7 e⟩⟩,y7,m7,((((q.swap).p15 (sl (sz w7) 2)).m2 (sz w7)).less (by omega))⟩
 case rest=>
  clear F q
  obtain⟨kv,vs,j6,k6,a6,hV,ye,mt,q⟩:=hcut
  obtain⟨w8,hw⟩:∃x,x=wc:=⟨_,rfl⟩
  subst hw
  have F:=q.f3
  have HV:Hid (k6=0→pathOK 2 s4∧∃x,vs.map labOf=[9,x]∧tyK x):=hV.2
  have hV2:=hV.1
  clear hV
  obtain⟨ao9,cp9,rfl⟩:=q.shape
  replace F:=q.f3
  go_wp2_with fail
  refine q.wn (want39F · _) ?_
  clear q F
  intro w10 i10 k10 a10 ok10 m10 q
  have F:=q.f3
  go_wp2_with fail
  go_loopg [5] (ml t i10 k10) (fun g _ wr=>∃(v:Value) (vs:List (List Value)) (j:Nat) (kj aj:Int),g=ml t j kj∧Few 4 vs j kj∧(1≤vs.length∧(kj=0→pathOK 2 s4∧∃x fs,vs.map labOf=9::x::fs∧tyK x∧∀f∈fs,f=208))∧∃(V:List (List Nr)),Hid (∀r,EvL (fun n=>gImplB t (gG t n 0) (gG t n 3) n) V ⟨j,kj,aj⟩ r→Ev (fun n=>gImpl t (gG t n 0) (gG t n 3) n) ⟨i,k,a⟩ (nd 7 (t.pos i:Int) 0 0 s4 r.1,r.2))∧Mf 1 w rb tb cap t i k True (-71) wr j kj aj [(sz w3,x3.a),(sz w1,nodeC 7 (t.pos i) 0 0 s4 v),(sz w,zeroC)] [] v vs [] V)
  case atStart=>exact⟨(.slice ao9 vs.length cp9),vs,i10,k10,a10,rfl,⟨fun _=>by omega,by omega⟩,⟨by omega,fun e=>by obtain⟨h1,x,h2,h3⟩:=HV.out (ok10.out e);exact⟨h1,x,[],h2,h3,fun f hf=>by cases hf⟩⟩,_,(fun r hr=>(by unfold gImpl;exact evt)),(q.less (by omega))⟩
  case round=>
   clear F q
   obtain⟨v,vs,j,kj,aj,hgk,hF,hE,V,HM,q⟩:=hrel
   have hj:=q.st.rd.lt
   have hposJ:(0:Int)≤(t.pos j:Int)∧(t.pos j:Int)≤7000:=by have:=h.good.posb j;omega
   have HG:Hid (gk=ml t j kj):=hgk
   clear hgk
   obtain⟨ao11,cp11,rfl⟩:=q.shape
   have F:=q.f3
   cases hk0:(kj==0)
   ·go_wp2_with fail
    refine q.lf ok21b ?_
    clear q F
    intro w12 q
    have F:=q.f3
    go_wp2_with fail
    go_light
    exact Mf.retb (C:=fun x=>x=7) (d:=8) Tryz.results100 rfl rfl (q.fo 7 (t.pos i) 0 0 s4 (Nat.le_trans hF.2 (by decide)) hposI hs4 (fun e=>absurd e (by simpa using hk0))) 2 rfl (fun _=>lab_ne (by decide)) (by omega) rfl (HM.out (_,_) (EvL.stop (by unfold gImplB;exact evt)))
   ·obtain rfl:kj=0:=by simpa using hk0
    have hb1:Hid (i≤j∧k=0∧i<j):=⟨q.le,q.ok rfl,q.go trivial rfl⟩
    have HE:Hid (1≤vs.length∧pathOK 2 s4∧∃x fs,vs.map labOf=9::x::fs∧tyK x∧∀f∈fs,f=208):=⟨hE.1,hE.2 rfl⟩
    clear hE
    have hFl:vs.length≤6005:=by have:=hF.1 rfl;have:=h.good.few;omega
    replace q:=q.rebase
    go_wp2_with fail
    refine q.lf ok21b ?_
    clear q F
    intro w13 q
    have F:=q.f3
    go_wp2_with fail
    refine q.et (eat42 · _) ?_
    clear q F
    intro w14 b14 i14 hE14 m14 q
    have F:=q.f3
    go_wp2_with fail
    ·obtain⟨gb15,rfl⟩:=q.shapeT HE.out.1
     clear F
     have F:=q.f3
     have HVL:Hid (V.length=vs.length):=q.fv.len
     obtain⟨c16,hR16,q'⟩:=q.park
     clear q
     have q:=q'
     clear q'
     go_wp2_with fail
     refine(headFp q.st.rd).mono ?_
     rintro e w17 ⟨p17,n17,s17,ao17,cp17,vs17,i17,k17,a17,rfl,hx17,hK17,hl17,hs17,hp17,hC17,hz17,V17,hF17,m17⟩
     have HC:Hid (k17=0→∃ps x,vs17.map labOf=9::(ps++[x])∧(ps.length:Int)=n17∧(∀p∈ps,p=12)∧tyK x):=hC17
     clear hC17
     replace q:=(q.list hx17 hK17 hz17 hF17).up (g':=True) (fun _ e=>Nat.lt_of_le_of_lt q.le (hx17.go trivial e))
     clear hx17 hK17 hz17
     clear F
     obtain⟨c_g,f_g,l_g,r_g⟩:=q.at 1 rfl
     obtain⟨c_n,f_n,l_n,r_n⟩:=q.at 2 rfl
     obtain⟨c_z,f_z,l_z,r_z⟩:=q.at 3 rfl
     go_upto_region 10 with fail
     go_cut [] (fun wx=>∃(kvf:Value) (vsf:List (List Value)) (j18:Nat) (k18 a18:Int),(vsf.length≤6011∧(k18=0→(∃ps x rest,vsf.map labOf=9::(ps++x::rest)∧(ps.length:Int)=n17∧(∀p∈ps,p=12)∧tyK x∧rest.length≤1∧∀y∈rest,noK y)∧(vsf.length:Int)=n17+3))∧(∃(yb:List Nr),Ev (fun n=>gG t n 3) ⟨i17,k17,a17⟩ (yb,⟨j18,k18,a18⟩)∧Mf 1 w rb tb cap t j 0 True (16*((j:Int) - (i:Int))+(-95)) wx j18 k18 a18 [(sz w17,nodeC 8 p17 n17 0 s17 kvf),(gb15,c16),(sz w3,x3.a),(sz w1,nodeC 7 (t.pos i) 0 0 s4 (.slice (some ⟨gb15,0,none⟩) vs.length cp11)),(sz w,zeroC)] ([]++(vs++[])) kvf vsf ([]++(V++[])) (V17++[yb])))
     case first=>
      go_wp2_with fail
      go_region_law (first|(refine q.as (sz w19) (Nat.le_trans hl17 (by decide)) ?_;clear q c_f f_f l_f r_f c_g f_g l_g r_g c_n f_n l_n r_n c_z f_z l_z r_z;intro w20 ao20 cp20 q;obtain⟨c_f,f_f,l_f,r_f⟩:=q.at 0 rfl;obtain⟨c_g,f_g,l_g,r_g⟩:=q.at 2 rfl;obtain⟨c_n,f_n,l_n,r_n⟩:=q.at 3 rfl;obtain⟨c_z,f_z,l_z,r_z⟩:=q.at 4 rfl)|(go_simp;refine(q.ne' (sz w17) (nodeC 8 p17 n17 0 s17 (.slice ao17 vs17.length cp17))).drew.nd blkF ?_;clear q c_g f_g l_g r_g c_n f_n l_n r_n c_z f_z l_z r_z;intro w19 x19 i19 k19 a19 y19 hc19 ok19 m19 q;obtain⟨c_f,f_f,l_f,r_f⟩:=q.at 0 rfl;obtain⟨c_g,f_g,l_g,r_g⟩:=q.at 2 rfl;obtain⟨c_n,f_n,l_n,r_n⟩:=q.at 3 rfl;obtain⟨c_z,f_z,l_z,r_z⟩:=q.at 4 rfl;obtain⟨ne_f_g,ne_g_f⟩:=q.ne 0 2 rfl rfl (by decide);obtain⟨ne_f_n,ne_n_f⟩:=q.ne 0 3 rfl rfl (by decide);obtain⟨ne_f_z,ne_z_f⟩:=q.ne 0 4 rfl rfl (by decide)))
      all_goals
       go_wp2_with fail
       go_meet
       exact⟨(.slice ao20 (vs17.length+1) cp20),(vs17++[x19.t]),i19,k19,a19,⟨by have:=hl17;simp;omega,fun e=>by obtain⟨ps,x,h1,h2,h3,h4⟩:=HC.out (ok19.out e);exact⟨⟨ps,x,[labOf x19.t],by rw[List.map_append,h1];simp,h2,h3,h4,by simp,fun y hy=>by have h9:=List.mem_singleton.1 hy;rw[h9];exact hc19 e⟩,by have:=congrArg List.length h1;simp at this⊢;omega⟩⟩,y19,m19,((q.p05 (.slice ao20 (vs17.length+1) cp20)).less (by omega))⟩
     case rest=>
      clear c_g f_g l_g r_g c_n f_n l_n r_n c_z f_z l_z r_z q
      obtain⟨kvf,vsf,j18,k18,a18,hW,yb,mb,q⟩:=hcut
      obtain⟨w21,hw⟩:∃x,x=wc:=⟨_,rfl⟩
      subst hw
      obtain⟨c_f,f_f,l_f,r_f⟩:=q.at 0 rfl
      obtain⟨c_g,f_g,l_g,r_g⟩:=q.at 2 rfl
      obtain⟨c_n,f_n,l_n,r_n⟩:=q.at 3 rfl
      obtain⟨c_z,f_z,l_z,r_z⟩:=q.at 4 rfl
      obtain⟨ne_f_g,ne_g_f⟩:=q.ne 0 2 rfl rfl (by decide)
      obtain⟨ne_f_n,ne_n_f⟩:=q.ne 0 3 rfl rfl (by decide)
      obtain⟨ne_f_z,ne_z_f⟩:=q.ne 0 4 rfl rfl (by decide)
      have HW:Hid (k18=0→(∃ps x rest,vsf.map labOf=9::(ps++x::rest)∧(ps.length:Int)=n17∧(∀p∈ps,p=12)∧tyK x∧rest.length≤1∧∀y∈rest,noK y)∧(vsf.length:Int)=n17+3):=hW.2
      have hWl:=hW.1
      clear hW
      obtain⟨ao22,cp22,rfl⟩:=q.shape
      clear c_f f_f l_f r_f c_g f_g l_g r_g c_n f_n l_n r_n c_z f_z l_z r_z
      obtain⟨c_f,f_f,l_f,r_f⟩:=q.at 0 rfl
      obtain⟨c_g,f_g,l_g,r_g⟩:=q.at 2 rfl
      obtain⟨c_n,f_n,l_n,r_n⟩:=q.at 3 rfl
      obtain⟨c_z,f_z,l_z,r_z⟩:=q.at 4 rfl
      replace q:=Mf.unpark hR16 ((q.fo 8 p17 n17 0 s17 (Nat.le_trans hWl (by decide)) hp17 hs17 (fun e=>Gr.of_fn ⟨.inl rfl,(HW.out e).1⟩)).swapL.unrot) HVL.out
      have F:=q.f4
      clear c_f f_f l_f r_f c_g f_g l_g r_g c_n f_n l_n r_n c_z f_z l_z r_z
      go_wp2_with (at_builtin;refine q.ap (sz w21) (Nat.le_trans hFl (by decide)) ?_;clear q F;intro w23 ao23 cp23 q;have F:=q.f4)
      go_wp2_with fail
      replace q:=(q.p25 (.slice ao23 (vs.length+1) cp23)).pop
      go_roundg (ml t j18 k18)
      case measure=>rw[HG.out];exact ml_lt hj q.le (q.go trivial)
      case rel=>exact⟨(.slice ao23 (vs.length+1) cp23),(vs++[(nodeC 8 p17 n17 0 s17 (.slice ao22 vsf.length cp22)).toList]),j18,k18,a18,rfl,Few.snoc (t:=t) hF rfl hj h.good (q.go trivial),⟨by simp,fun e=>by obtain⟨h1,x,fs,h2,h3,h4⟩:=HE.out.2;refine⟨h1,x,fs++[208],?_,h3,all_snoc (C:=fun f=>f=208) h4 rfl⟩;rw[List.map_append,h2];show _++[lab 8 n17 0 s17 vsf.length]=_;rw[show lab 8 n17 0 s17 vsf.length=208 by unfold lab;rw[if_pos rfl,if_pos (HW.out e).2,if_pos rfl]];rfl⟩,_,(fun r hr=>HM.out r (EvL.on (by unfold gImplB;exact evt) hr)),q.unbase (s':= -71) (g':=True) hb1.out.1 (fun _=>hb1.out.2.1) (fun _ _=>hb1.out.2.2) (by omega)⟩
    ·go_wp2_with fail
     go_light
     exact Mf.retb (C:=fun x=>x=7) (d:=8) Tryz.results100 rfl rfl ((q.fo 7 (t.pos i) 0 0 s4 (Nat.le_trans hF.2 (by decide)) hposI hs4 (fun e=>Gr.of_impl HE.out.2)).unbase (s':= -70) (g':=True) hb1.out.1 (fun _=>hb1.out.2.1) (fun _ _=>hb1.out.2.2) (by omega)) 2 rfl (fun _=>lab_ne (by decide)) (by omega) rfl (HM.out (_,_) (EvL.stop (by unfold gImplB;exact evt)))
end Go.Proofs.YtdplogkmkgekdaaGreatDoor
namespace Go.Proofs.YtdplogkmkgekdaaGreatDoor
open Go.RowKit
theorem structF {w:World} {rb tb cap i:Nat} {t:Tk} {k a:Int} (h:Rd w rb tb cap t i k a) (pos M:Int) (hpos:0≤pos∧pos≤7000) (hM:0≤M∧M≤3):Calls Tryz.prog 101 #[.pointer (some ⟨rb,0,none⟩),.agg (nodeC 3 pos 0 M ⟨#[]⟩ nl)] w (NodeF 1 w rb tb cap t i k a True 8 (fun x=>x=3) (fun n=>gStruct t (gG t n 0) pos M n)):=by
 have hl:=h.l
 have HM:Hid (0≤M∧M≤3):=hM
 clear hM
 go_enter Tryz.func101,Tryz.ntmps101
 have q:=Mf.start (wt:=1) h
 go_wp2_with fail
 refine((q.ne' (sz w) (nodeC 3 pos 0 M ⟨#[]⟩ nl)).ne' ((sz w)+1) (zeroC)).nm name40F ?_
 clear q
 intro w1 s1 i1 k1 a1 hs1 ho1 ok1 m1 q
 have F:=q.f2
 go_wp2_with fail
 refine(q.p14 s1).nn (gensF_all · false) ?_
 clear q F
 intro w2 x2 i2 k2 a2 y2 hc2 ok2 m2 q
 have F:=q.f2
 go_wp2_with fail
 refine(q.ne' (sz w2) x2.a).lf (node20 · 4) ?_
 clear q F
 intro w3 q
 have F:=q.f3
 have hposV:(0:Int)≤((t.pos i2):Int)∧((t.pos i2):Int)≤7000:=by have:=h.good.posb i2;omega
 go_wp2_with fail
 refine(q.ne' (sz w3) (nk 4 (t.pos i2) nl)).wn (want39F · _) ?_
 clear q F
 intro w4 i4 k4 a4 ok4 m4 q
 have F:=q.f4
 go_wp2_with fail
 go_loopg [7] (ml t i4 k4) (fun g _ wr=>∃(v:Value) (vs:List (List Value)) (j:Nat) (kj aj:Int),g=ml t j kj∧Few 4 vs j kj∧((kj=0→k2=0)∧(kj=0→∀x∈vs.map labOf,x=105))∧∃(V:List (List Nr)),Hid (∀r,EvL (fun n=>gStructB t (gG t n 0)) V ⟨j,kj,aj⟩ r→Ev (fun n=>gStruct t (gG t n 0) pos M n) ⟨i,k,a⟩ (nd 3 pos 0 M s1 [y2,nd 4 (t.pos i2:Int) 0 0 E0 r.1],r.2))∧Mf 1 w rb tb cap t i k True (-31) wr j kj aj [(sz w3,nk 4 (t.pos i2) v),(sz w2,x2.a),((sz w)+1,zeroC),(sz w,nodeC 3 pos 0 M s1 nl)] [x2.t] v vs [y2] V)
 case atStart=>exact⟨nl,[],i4,k4,a4,rfl,⟨fun _=>by simp,by simp⟩,⟨fun e=>ok4.out e,fun _ x hx=>by cases hx⟩,_,(fun r hr=>(by unfold gStruct;exact evt)),(q.less (by omega))⟩
 case round=>
  clear F q
  obtain⟨v,vs,j,kj,aj,hgk,hF,hE,V,HE2,q⟩:=hrel
  have hj:=q.st.rd.lt
  have hposJ:(0:Int)≤(t.pos j:Int)∧(t.pos j:Int)≤7000:=by have:=h.good.posb j;omega
  have HG:Hid (gk=ml t j kj):=hgk
  clear hgk
  obtain⟨ao5,cp5,rfl⟩:=q.shape
  have F:=q.f4
  cases hk0:(kj==0)
  ·go_wp2_with fail
   refine q.lf ok21b ?_
   clear q F
   intro w6 q
   have F:=q.f4
   go_wp2_with fail
   go_light
   refine Mf.retb (C:=fun x=>x=3) (d:=8) Tryz.results101 rfl rfl ((((q.fk 4 (t.pos i2) (Nat.le_trans hF.2 (by decide)) hposV (fun e=>absurd e (by simpa using hk0))).swap).p35 (sl (sz w6) 2)).l2 (sz w6) 3 pos 0 M s1 hpos (Nat.le_trans hs1 (by decide)) (fun e=>absurd e (by simpa using hk0))) 2 rfl (fun _=>lab_ne (by decide)) (by omega) ?_ (HE2.out (_,_) (EvL.stop (by unfold gStructB;exact evt)))
   simp[set11,World.setCell_alloc_past,F,Nat.lt_succ_of_lt]
  ·obtain rfl:kj=0:=by simpa using hk0
   have hb1:Hid (i≤j∧k=0∧i<j):=⟨q.le,q.ok rfl,q.go trivial rfl⟩
   have HE:Hid (k2=0∧∀x∈vs.map labOf,x=105):=⟨hE.1 rfl,hE.2 rfl⟩
   clear hE
   have hFl:vs.length≤6005:=by have:=hF.1 rfl;have:=h.good.few;omega
   replace q:=q.rebase
   go_wp2_with fail
   refine q.lf ok21b ?_
   clear q F
   intro w7 q
   have F:=q.f4
   go_wp2_with fail
   refine q.et (eat42 · _) ?_
   clear q F
   intro w8 b8 i8 hE8 m8 q
   have F:=q.f4
   go_wp2_with fail
   ·go_wp2_with fail
    refine q.lf (node20 · 5) ?_
    clear q F
    intro w9 q
    have F:=q.f4
    have hposA:(0:Int)≤((t.pos i8):Int)∧((t.pos i8):Int)≤7000:=by have:=h.good.posb i8;omega
    go_wp2_with fail
    refine(q.ne' (sz w9) (nk 5 (t.pos i8) nl)).et (eat42 · _) ?_
    clear q F
    intro w10 b10 i10 hE10 m10 q
    obtain⟨c_f,f_f,l_f,r_f⟩:=q.at 0 rfl
    obtain⟨c_v,f_v,l_v,r_v⟩:=q.at 1 rfl
    obtain⟨c_g,f_g,l_g,r_g⟩:=q.at 2 rfl
    obtain⟨c_z,f_z,l_z,r_z⟩:=q.at 3 rfl
    obtain⟨c_n,f_n,l_n,r_n⟩:=q.at 4 rfl
    obtain⟨ne_f_v,ne_v_f⟩:=q.ne 0 1 rfl rfl (by decide)
    obtain⟨ne_f_g,ne_g_f⟩:=q.ne 0 2 rfl rfl (by decide)
    obtain⟨ne_f_z,ne_z_f⟩:=q.ne 0 3 rfl rfl (by decide)
    obtain⟨ne_f_n,ne_n_f⟩:=q.ne 0 4 rfl rfl (by decide)
    go_upto_if 27 with fail
    go_cut [] (fun wx=>∃(MM:Int) (j11:Nat) (k11 a11:Int),(Ev (fun _=>bnd (gEat t ⟨#[112,117,98]⟩) (fun b55=>cond (b55) (ret ((1:Int))) (ret ((0:Int))))) ⟨i8,0,aj⟩ (MM,⟨j11,k11,a11⟩)∧Mf 1 w rb tb cap t j 0 False (16*((j:Int) - (i:Int))+(-31)) wx j11 k11 a11 [(sz w9,nodeC 5 (t.pos i8) 0 MM ⟨#[]⟩ nl),(sz w3,nk 4 (t.pos i2) (.slice ao5 vs.length cp5)),(sz w2,x2.a),((sz w)+1,zeroC),(sz w,nodeC 3 pos 0 M s1 nl)] [x2.t] (.slice ao5 vs.length cp5) vs [y2] V))
    case first=>
     go_wp2_with fail
     ·go_wp2_with fail
      go_meet
      exact⟨1,i10,0,aj,evt,((q.p03 1).less (by omega))⟩
     ·go_wp2_with fail
      go_meet
      exact⟨0,i10,0,aj,evt,(q.less (by omega))⟩
    case rest=>
     clear c_f f_f l_f r_f c_v f_v l_v r_v c_g f_g l_g r_g c_z f_z l_z r_z c_n f_n l_n r_n q
     obtain⟨MM,j11,k11,a11,mp,q⟩:=hcut
     obtain⟨w12,hw⟩:∃x,x=wc:=⟨_,rfl⟩
     subst hw
     obtain⟨c_f,f_f,l_f,r_f⟩:=q.at 0 rfl
     obtain⟨c_v,f_v,l_v,r_v⟩:=q.at 1 rfl
     obtain⟨c_g,f_g,l_g,r_g⟩:=q.at 2 rfl
     obtain⟨c_z,f_z,l_z,r_z⟩:=q.at 3 rfl
     obtain⟨c_n,f_n,l_n,r_n⟩:=q.at 4 rfl
     go_wp2_with fail
     refine q.nm name40F ?_
     clear q c_f f_f l_f r_f c_v f_v l_v r_v c_g f_g l_g r_g c_z f_z l_z r_z c_n f_n l_n r_n
     intro w13 s13 i13 k13 a13 hs13 ho13 ok13 m13 q
     obtain⟨c_f,f_f,l_f,r_f⟩:=q.at 0 rfl
     obtain⟨c_v,f_v,l_v,r_v⟩:=q.at 1 rfl
     obtain⟨c_g,f_g,l_g,r_g⟩:=q.at 2 rfl
     obtain⟨c_z,f_z,l_z,r_z⟩:=q.at 3 rfl
     obtain⟨c_n,f_n,l_n,r_n⟩:=q.at 4 rfl
     go_wp2_with fail
     refine(q.p04 s13).wn (want39F · _) ?_
     clear q c_f f_f l_f r_f c_v f_v l_v r_v c_g f_g l_g r_g c_z f_z l_z r_z c_n f_n l_n r_n
     intro w14 i14 k14 a14 ok14 m14 q
     obtain⟨c_f,f_f,l_f,r_f⟩:=q.at 0 rfl
     obtain⟨c_v,f_v,l_v,r_v⟩:=q.at 1 rfl
     obtain⟨c_g,f_g,l_g,r_g⟩:=q.at 2 rfl
     obtain⟨c_z,f_z,l_z,r_z⟩:=q.at 3 rfl
     obtain⟨c_n,f_n,l_n,r_n⟩:=q.at 4 rfl
     go_wp2_with fail
     refine q.nd (typ_anyF _ · (bd_some _ _ _ 3)) ?_
     clear q c_f f_f l_f r_f c_v f_v l_v r_v c_g f_g l_g r_g c_z f_z l_z r_z c_n f_n l_n r_n
     intro w15 x15 i15 k15 a15 y15 hc15 ok15 m15 q
     obtain⟨c_f,f_f,l_f,r_f⟩:=q.at 0 rfl
     obtain⟨c_v,f_v,l_v,r_v⟩:=q.at 1 rfl
     obtain⟨c_g,f_g,l_g,r_g⟩:=q.at 2 rfl
     obtain⟨c_z,f_z,l_z,r_z⟩:=q.at 3 rfl
     obtain⟨c_n,f_n,l_n,r_n⟩:=q.at 4 rfl
     go_wp2_with (at_builtin;refine((q.p05 (sl (sz w15) 1)).l1 (sz w15) 5 (t.pos i8) 0 MM s13 hposA (Nat.le_trans hs13 (by decide)) (fun e=>Gr.of_field ⟨_,rfl,hc15 e⟩)).ap ((sz w15)+1) (Nat.le_trans hFl (by decide)) ?_;clear q c_f f_f l_f r_f c_v f_v l_v r_v c_g f_g l_g r_g c_z f_z l_z r_z c_n f_n l_n r_n;intro w16 ao16 cp16 q;obtain⟨c_f,f_f,l_f,r_f⟩:=q.at 0 rfl;obtain⟨c_v,f_v,l_v,r_v⟩:=q.at 1 rfl;obtain⟨c_g,f_g,l_g,r_g⟩:=q.at 2 rfl;obtain⟨c_z,f_z,l_z,r_z⟩:=q.at 3 rfl;obtain⟨c_n,f_n,l_n,r_n⟩:=q.at 4 rfl)
     go_wp2_with fail
     refine(q.p15 (.slice ao16 (vs.length+1) cp16)).lf (is41 · 0 (by decide) _) ?_
     clear q c_f f_f l_f r_f c_v f_v l_v r_v c_g f_g l_g r_g c_z f_z l_z r_z c_n f_n l_n r_n
     intro w17 q
     obtain⟨c_f,f_f,l_f,r_f⟩:=q.at 0 rfl
     obtain⟨c_v,f_v,l_v,r_v⟩:=q.at 1 rfl
     obtain⟨c_g,f_g,l_g,r_g⟩:=q.at 2 rfl
     obtain⟨c_z,f_z,l_z,r_z⟩:=q.at 3 rfl
     obtain⟨c_n,f_n,l_n,r_n⟩:=q.at 4 rfl
     go_wp2_with fail
     ·go_wp2_with fail
      refine q.wn (want39F · _) ?_
      clear q c_f f_f l_f r_f c_v f_v l_v r_v c_g f_g l_g r_g c_z f_z l_z r_z c_n f_n l_n r_n
      intro w18 i18 k18 a18 ok18 m18 q
      obtain⟨c_f,f_f,l_f,r_f⟩:=q.at 0 rfl
      obtain⟨c_v,f_v,l_v,r_v⟩:=q.at 1 rfl
      obtain⟨c_g,f_g,l_g,r_g⟩:=q.at 2 rfl
      obtain⟨c_z,f_z,l_z,r_z⟩:=q.at 3 rfl
      obtain⟨c_n,f_n,l_n,r_n⟩:=q.at 4 rfl
      go_wp2_with fail
      replace q:=q.pop
      go_roundg (ml t i18 k18)
      case measure=>rw[HG.out];exact ml_lt hj q.le (q.go trivial)
      case rel=>exact⟨(.slice ao16 (vs.length+1) cp16),(vs++[(nodeC 5 (t.pos i8) 0 MM s13 (sl (sz w15) 1)).toList]),i18,k18,a18,rfl,Few.snoc (t:=t) hF rfl hj h.good (q.go trivial),⟨fun _=>HE.out.1,fun e=>by rw[List.map_append];exact all_snoc (C:=fun x=>x=105) HE.out.2 (lab_field (ho13 (ok14.out (ok15.out (ok18.out e)))))⟩,_,(fun r hr=>HE2.out r (EvL.on (by unfold gStructB;exact evt) hr)),q.unbase (s':= -31) (g':=True) hb1.out.1 (fun _=>hb1.out.2.1) (fun _ _=>hb1.out.2.2) (by omega)⟩
     ·go_wp2_with fail
      replace q:=q.pop
      go_roundg (ml t i15 k15)
      case measure=>rw[HG.out];exact ml_lt hj q.le (q.go trivial)
      case rel=>exact⟨(.slice ao16 (vs.length+1) cp16),(vs++[(nodeC 5 (t.pos i8) 0 MM s13 (sl (sz w15) 1)).toList]),i15,k15,a15,rfl,Few.snoc (t:=t) hF rfl hj h.good (q.go trivial),⟨fun _=>HE.out.1,fun e=>by rw[List.map_append];exact all_snoc (C:=fun x=>x=105) HE.out.2 (lab_field (ho13 (ok14.out (ok15.out e))))⟩,_,(fun r hr=>HE2.out r (EvL.on (by unfold gStructB;exact evt) hr)),q.unbase (s':= -31) (g':=True) hb1.out.1 (fun _=>hb1.out.2.1) (fun _ _=>hb1.out.2.2) (by omega)⟩
   ·go_wp2_with fail
    go_light
    refine Mf.retb (C:=fun x=>x=3) (d:=8) Tryz.results101 rfl rfl (((((q.fk 4 (t.pos i2) (Nat.le_trans hF.2 (by decide)) hposV (fun e=>Gr.of_variant (fun x hx=>(HE.out.2 x hx).trans (if_pos rfl).symm))).swap).p35 (sl (sz w8) 2)).l2 (sz w8) 3 pos 0 M s1 hpos (Nat.le_trans hs1 (by decide)) (fun e=>Gr.of_data ⟨HM.out,.inl ⟨rfl,by show [labOf x2.t,lab 4 0 0 ⟨#[]⟩ _]=[9,104];rw[hc2 HE.out.1,lab_var0]⟩⟩)).unbase (s':= -29) (g':=True) hb1.out.1 (fun _=>hb1.out.2.1) (fun _ _=>hb1.out.2.2) (by omega)) 2 rfl (fun _=>lab_ne (by decide)) (by omega) ?_ (HE2.out (_,_) (EvL.stop (by unfold gStructB;exact evt)))
    simp[set11,World.setCell_alloc_past,F,Nat.lt_succ_of_lt]
end Go.Proofs.YtdplogkmkgekdaaGreatDoor
