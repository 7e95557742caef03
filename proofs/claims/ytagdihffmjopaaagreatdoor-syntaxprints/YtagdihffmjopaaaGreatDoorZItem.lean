/- Items. -/
import Derived.Test.YtagdihffmjopaaaGreatDoorZImpl
import Derived.Test.YtagdihffmjopaaaGreatDoorApp
namespace Go.Proofs.YtagdihffmjopaaaGreatDoor
set_option linter.all false
open Go.RowKit
set_option maxRecDepth 100000 in
set_option maxHeartbeats 1000000 in
theorem structZ {w:World} {rb tb cap i:Nat} {t:Tk} {k a:Int} (h:Rd w rb tb cap t i k a) (pos M:Int) (hpos:0≤pos∧pos≤7000) (hM:0≤M∧M≤3):Calls Tryz.prog 42 #[.pointer (some ⟨rb,0,none⟩),.agg (nodeC 3 pos 0 M ⟨#[]⟩ nl)] w (NodeZ 1 w rb tb cap t i k True 8 (fun x=>x=3)):=by
 have hl:=h.l
 have HM:Hid (0≤M∧M≤3):=hM
 clear hM
 go_enter Tryz.func42,Tryz.ntmps42
 have q:=Mz.start (wt:=1) h
 go_wp2_with fail
 refine((q.ne' (sz w) (nodeC 3 pos 0 M ⟨#[]⟩ nl)).ne' ((sz w)+1) (zeroC)).nm name40 ?_
 clear q
 intro w1 s1 i1 k1 a1 hs1 ho1 ok1 q
 have F:=q.f2
 go_wp2_with fail
 refine(q.p14 s1).nn (gensZ · false) ?_
 clear q F
 intro w2 x2 i2 k2 a2 hc2 ok2 q
 have F:=q.f2
 go_wp2_with fail
 refine(q.ne' (sz w2) x2.a).lf (node20 · 4) ?_
 clear q F
 intro w3 q
 have F:=q.f3
 have hposV:(0:Int)≤((t.pos i2):Int)∧((t.pos i2):Int)≤7000:=by have:=h.good.posb i2;omega
 go_wp2_with fail
 refine(q.ne' (sz w3) (nk 4 (t.pos i2) nl)).wn (want39 · _) ?_
 clear q F
 intro w4 i4 k4 a4 ok4 q
 have F:=q.f4
 go_wp2_with fail
 go_loopg [7] (ml t i4 k4) (fun g _ wr=>∃(v:Value) (vs:List (List Value)) (j:Nat) (kj aj:Int),g=ml t j kj∧Few 4 vs j kj∧((kj=0→k2=0)∧(kj=0→∀x∈vs.map labOf,x=105))∧Mz 1 w rb tb cap t i k True (-31) wr j kj aj [(sz w3,nk 4 (t.pos i2) v),(sz w2,x2.a),((sz w)+1,zeroC),(sz w,nodeC 3 pos 0 M s1 nl)] [x2.t] v vs)
 case atStart=>exact⟨nl,[],i4,k4,a4,rfl,⟨fun _=>by simp,by simp⟩,⟨fun e=>ok4.out e,fun _ x hx=>by cases hx⟩,(q.less (by omega))⟩
 case round=>
  clear F q
  obtain⟨v,vs,j,kj,aj,hgk,hF,hE,q⟩:=hrel
  have hj:=q.st.rd.lt
  have hposJ:(0:Int)≤(t.pos j:Int)∧(t.pos j:Int)≤7000:=by have:=h.good.posb j;omega
  have HG:Hid (gk=ml t j kj):=hgk
  clear hgk
  obtain⟨ao5,cp5,rfl⟩:=q.shape
  have F:=q.f4
  cases hk0:(kj==0)
  ·go_wp2_with fail
   refine q.lf ok21b ?_
   clear q F
   intro w6 q
   have F:=q.f4
   go_wp2_with fail
   go_light
   refine Mz.retb (C:=fun x=>x=3) (d:=8) Tryz.results42 rfl rfl ((((q.fk 4 (t.pos i2) (Nat.le_trans hF.2 (by decide)) hposV (fun e=>absurd e (by simpa using hk0))).swap).p35 (sl (sz w6) 2)).l2 (sz w6) 3 pos 0 M s1 hpos (Nat.le_trans hs1 (by decide)) (fun e=>absurd e (by simpa using hk0))) 2 rfl (fun _=>lab_ne (by decide)) (by omega) ?_
   simp[set11,World.setCell_alloc_past,F,Nat.lt_succ_of_lt]
  ·obtain rfl:kj=0:=by simpa using hk0
   have hb1:Hid (i≤j∧k=0∧i<j):=⟨q.le,q.ok rfl,q.go trivial rfl⟩
   have HE:Hid (k2=0∧∀x∈vs.map labOf,x=105):=⟨hE.1 rfl,hE.2 rfl⟩
   clear hE
   have hFl:vs.length≤6005:=by have:=hF.1 rfl;have:=h.good.few;omega
   replace q:=q.rebase
   go_wp2_with fail
   refine q.lf ok21b ?_
   clear q F
   intro w7 q
   have F:=q.f4
   go_wp2_with fail
   refine q.et (eat42 · _) ?_
   clear q F
   intro w8 b8 i8 hE8 q
   have F:=q.f4
   go_wp2_with fail
   ·go_wp2_with fail
    refine q.lf (node20 · 5) ?_
    clear q F
    intro w9 q
    have F:=q.f4
    have hposA:(0:Int)≤((t.pos i8):Int)∧((t.pos i8):Int)≤7000:=by have:=h.good.posb i8;omega
    go_wp2_with fail
    refine(q.ne' (sz w9) (nk 5 (t.pos i8) nl)).et (eat42 · _) ?_
    clear q F
    intro w10 b10 i10 hE10 q
    obtain⟨c_f,f_f,l_f,r_f⟩:=q.at 0 rfl
    obtain⟨c_v,f_v,l_v,r_v⟩:=q.at 1 rfl
    obtain⟨c_g,f_g,l_g,r_g⟩:=q.at 2 rfl
    obtain⟨c_z,f_z,l_z,r_z⟩:=q.at 3 rfl
    obtain⟨c_n,f_n,l_n,r_n⟩:=q.at 4 rfl
    obtain⟨ne_f_v,ne_v_f⟩:=q.ne 0 1 rfl rfl (by decide)
    obtain⟨ne_f_g,ne_g_f⟩:=q.ne 0 2 rfl rfl (by decide)
    obtain⟨ne_f_z,ne_z_f⟩:=q.ne 0 3 rfl rfl (by decide)
    obtain⟨ne_f_n,ne_n_f⟩:=q.ne 0 4 rfl rfl (by decide)
    go_upto_if 27 with fail
    go_cut [] (fun wx=>∃(MM:Int) (j11:Nat) (k11 a11:Int),Mz 1 w rb tb cap t j 0 False (16*((j:Int) - (i:Int))+(-31)) wx j11 k11 a11 [(sz w9,nodeC 5 (t.pos i8) 0 MM ⟨#[]⟩ nl),(sz w3,nk 4 (t.pos i2) (.slice ao5 vs.length cp5)),(sz w2,x2.a),((sz w)+1,zeroC),(sz w,nodeC 3 pos 0 M s1 nl)] [x2.t] (.slice ao5 vs.length cp5) vs)
    case first=>
     go_wp2_with fail
     ·go_wp2_with fail
      go_meet
      exact⟨1,i10,0,aj,((q.p03 1).less (by omega))⟩
     ·go_wp2_with fail
      go_meet
      exact⟨0,i10,0,aj,(q.less (by omega))⟩
    case rest=>
     clear c_f f_f l_f r_f c_v f_v l_v r_v c_g f_g l_g r_g c_z f_z l_z r_z c_n f_n l_n r_n q
     obtain⟨MM,j11,k11,a11,q⟩:=hcut
     obtain⟨w12,hw⟩:∃x,x=wc:=⟨_,rfl⟩
     subst hw
     obtain⟨c_f,f_f,l_f,r_f⟩:=q.at 0 rfl
     obtain⟨c_v,f_v,l_v,r_v⟩:=q.at 1 rfl
     obtain⟨c_g,f_g,l_g,r_g⟩:=q.at 2 rfl
     obtain⟨c_z,f_z,l_z,r_z⟩:=q.at 3 rfl
     obtain⟨c_n,f_n,l_n,r_n⟩:=q.at 4 rfl
     go_wp2_with fail
     refine q.nm name40 ?_
     clear q c_f f_f l_f r_f c_v f_v l_v r_v c_g f_g l_g r_g c_z f_z l_z r_z c_n f_n l_n r_n
     intro w13 s13 i13 k13 a13 hs13 ho13 ok13 q
     obtain⟨c_f,f_f,l_f,r_f⟩:=q.at 0 rfl
     obtain⟨c_v,f_v,l_v,r_v⟩:=q.at 1 rfl
     obtain⟨c_g,f_g,l_g,r_g⟩:=q.at 2 rfl
     obtain⟨c_z,f_z,l_z,r_z⟩:=q.at 3 rfl
     obtain⟨c_n,f_n,l_n,r_n⟩:=q.at 4 rfl
     go_wp2_with fail
     refine(q.p04 s13).wn (want39 · _) ?_
     clear q c_f f_f l_f r_f c_v f_v l_v r_v c_g f_g l_g r_g c_z f_z l_z r_z c_n f_n l_n r_n
     intro w14 i14 k14 a14 ok14 q
     obtain⟨c_f,f_f,l_f,r_f⟩:=q.at 0 rfl
     obtain⟨c_v,f_v,l_v,r_v⟩:=q.at 1 rfl
     obtain⟨c_g,f_g,l_g,r_g⟩:=q.at 2 rfl
     obtain⟨c_z,f_z,l_z,r_z⟩:=q.at 3 rfl
     obtain⟨c_n,f_n,l_n,r_n⟩:=q.at 4 rfl
     go_wp2_with fail
     refine q.nd (typ_anyZ _ · (bd_some _ _ _ 3)) ?_
     clear q c_f f_f l_f r_f c_v f_v l_v r_v c_g f_g l_g r_g c_z f_z l_z r_z c_n f_n l_n r_n
     intro w15 x15 i15 k15 a15 hc15 ok15 q
     obtain⟨c_f,f_f,l_f,r_f⟩:=q.at 0 rfl
     obtain⟨c_v,f_v,l_v,r_v⟩:=q.at 1 rfl
     obtain⟨c_g,f_g,l_g,r_g⟩:=q.at 2 rfl
     obtain⟨c_z,f_z,l_z,r_z⟩:=q.at 3 rfl
     obtain⟨c_n,f_n,l_n,r_n⟩:=q.at 4 rfl
     go_wp2_with (at_builtin;refine((q.p05 (sl (sz w15) 1)).l1 (sz w15) 5 (t.pos i8) 0 MM s13 hposA (Nat.le_trans hs13 (by decide)) (fun e=>Gr.of_field ⟨_,rfl,hc15 e⟩)).ap ((sz w15)+1) (Nat.le_trans hFl (by decide)) ?_;clear q c_f f_f l_f r_f c_v f_v l_v r_v c_g f_g l_g r_g c_z f_z l_z r_z c_n f_n l_n r_n;intro w16 ao16 cp16 q;obtain⟨c_f,f_f,l_f,r_f⟩:=q.at 0 rfl;obtain⟨c_v,f_v,l_v,r_v⟩:=q.at 1 rfl;obtain⟨c_g,f_g,l_g,r_g⟩:=q.at 2 rfl;obtain⟨c_z,f_z,l_z,r_z⟩:=q.at 3 rfl;obtain⟨c_n,f_n,l_n,r_n⟩:=q.at 4 rfl)
     go_wp2_with fail
     refine(q.p15 (.slice ao16 (vs.length+1) cp16)).lf (is41 · 0 (by decide) _) ?_
     clear q c_f f_f l_f r_f c_v f_v l_v r_v c_g f_g l_g r_g c_z f_z l_z r_z c_n f_n l_n r_n
     intro w17 q
     obtain⟨c_f,f_f,l_f,r_f⟩:=q.at 0 rfl
     obtain⟨c_v,f_v,l_v,r_v⟩:=q.at 1 rfl
     obtain⟨c_g,f_g,l_g,r_g⟩:=q.at 2 rfl
     obtain⟨c_z,f_z,l_z,r_z⟩:=q.at 3 rfl
     obtain⟨c_n,f_n,l_n,r_n⟩:=q.at 4 rfl
     go_wp2_with fail
     ·go_wp2_with fail
      refine q.wn (want39 · _) ?_
      clear q c_f f_f l_f r_f c_v f_v l_v r_v c_g f_g l_g r_g c_z f_z l_z r_z c_n f_n l_n r_n
      intro w18 i18 k18 a18 ok18 q
      obtain⟨c_f,f_f,l_f,r_f⟩:=q.at 0 rfl
      obtain⟨c_v,f_v,l_v,r_v⟩:=q.at 1 rfl
      obtain⟨c_g,f_g,l_g,r_g⟩:=q.at 2 rfl
      obtain⟨c_z,f_z,l_z,r_z⟩:=q.at 3 rfl
      obtain⟨c_n,f_n,l_n,r_n⟩:=q.at 4 rfl
      go_wp2_with fail
      replace q:=q.pop
      go_roundg (ml t i18 k18)
      case measure=>rw[HG.out];exact ml_lt hj q.le (q.go trivial)
      case rel=>exact⟨(.slice ao16 (vs.length+1) cp16),(vs++[(nodeC 5 (t.pos i8) 0 MM s13 (sl (sz w15) 1)).toList]),i18,k18,a18,rfl,Few.snoc (t:=t) hF rfl hj h.good (q.go trivial),⟨fun _=>HE.out.1,fun e=>by rw[List.map_append];exact all_snoc (C:=fun x=>x=105) HE.out.2 (lab_field (ho13 (ok14.out (ok15.out (ok18.out e)))))⟩,q.unbase (s':= -31) (g':=True) hb1.out.1 (fun _=>hb1.out.2.1) (fun _ _=>hb1.out.2.2) (by omega)⟩
     ·go_wp2_with fail
      replace q:=q.pop
      go_roundg (ml t i15 k15)
      case measure=>rw[HG.out];exact ml_lt hj q.le (q.go trivial)
      case rel=>exact⟨(.slice ao16 (vs.length+1) cp16),(vs++[(nodeC 5 (t.pos i8) 0 MM s13 (sl (sz w15) 1)).toList]),i15,k15,a15,rfl,Few.snoc (t:=t) hF rfl hj h.good (q.go trivial),⟨fun _=>HE.out.1,fun e=>by rw[List.map_append];exact all_snoc (C:=fun x=>x=105) HE.out.2 (lab_field (ho13 (ok14.out (ok15.out e))))⟩,q.unbase (s':= -31) (g':=True) hb1.out.1 (fun _=>hb1.out.2.1) (fun _ _=>hb1.out.2.2) (by omega)⟩
   ·go_wp2_with fail
    go_light
    refine Mz.retb (C:=fun x=>x=3) (d:=8) Tryz.results42 rfl rfl (((((q.fk 4 (t.pos i2) (Nat.le_trans hF.2 (by decide)) hposV (fun e=>Gr.of_variant (fun x hx=>(HE.out.2 x hx).trans (if_pos rfl).symm))).swap).p35 (sl (sz w8) 2)).l2 (sz w8) 3 pos 0 M s1 hpos (Nat.le_trans hs1 (by decide)) (fun e=>Gr.of_data ⟨HM.out,.inl ⟨rfl,by show [labOf x2.t,lab 4 0 0 ⟨#[]⟩ _]=[9,104];rw[hc2 HE.out.1,lab_var0]⟩⟩)).unbase (s':= -29) (g':=True) hb1.out.1 (fun _=>hb1.out.2.1) (fun _ _=>hb1.out.2.2) (by omega)) 2 rfl (fun _=>lab_ne (by decide)) (by omega) ?_
    simp[set11,World.setCell_alloc_past,F,Nat.lt_succ_of_lt]
end Go.Proofs.YtagdihffmjopaaaGreatDoor
namespace Go.Proofs.YtagdihffmjopaaaGreatDoor
set_option linter.all false
open Go.RowKit
set_option maxRecDepth 100000 in
set_option maxHeartbeats 1000000 in
theorem headZb {w:World} {rb tb cap i:Nat} {t:Tk} {k a:Int} (h:Rd w rb tb cap t i k a):Calls Tryz.prog 44 #[.pointer (some ⟨rb,0,none⟩),.bool true] w (HeadZ w rb tb cap t i k):=by
 have hl:=h.l
 have hposI:(0:Int)≤(t.pos i:Int)∧(t.pos i:Int)≤7000:=by have:=h.good.posb i;omega
 go_enter Tryz.func44,Tryz.ntmps44
 have q:=Mz.start (wt:=1) h
 go_wp2_with fail
 refine(q.ne' (sz w) (zeroC)).lf (node20 · 8) ?_
 clear q
 intro w1 q
 have F:=q.f1
 go_wp2_with fail
 refine(q.ne' (sz w1) (nk 8 (t.pos i) nl)).wn (want39 · _) ?_
 clear q F
 intro w2 i2 k2 a2 ok2 q
 have F:=q.f2
 go_wp2_with fail
 refine q.nm name40 ?_
 clear q F
 intro w3 s3 i3 k3 a3 hs3 ho3 ok3 q
 have F:=q.f2
 go_wp2_with fail
 refine(q.p04 s3).lf (node20 · 9) ?_
 clear q F
 intro w4 q
 have F:=q.f2
 have hposG:(0:Int)≤((t.pos i3):Int)∧((t.pos i3):Int)≤7000:=by have:=h.good.posb i3;omega
 go_wp2_with fail
 refine(q.ne' (sz w4) (nk 9 (t.pos i3) nl)).nn (gensZ · true) ?_
 clear q F
 intro w5 x5 i5 k5 a5 hc5 ok5 q
 have F:=q.f3
 go_wp2_with fail
 replace q:=((q.pA0 x5.k x5.p x5.n x5.m x5.s x5.v).p15 (sl (sz w5) 1)).m1 (sz w5)
 have lB:=(q.at 1 rfl).2.2.1
 refine(parZ q.st.rd).mono ?_
 rintro e w6 ⟨ao6,cp6,vs6,i6,k6,a6,rfl,hx6,hK6,hl6,hP6,hz6⟩
 have ok6:Hid (k6=0→k5=0):=hx6.ok
 replace q:=(q.holds hx6 hK6 hz6).up (g':=True) (fun _ e=>Nat.lt_of_le_of_lt q.le (hx6.go trivial e))
 clear hx6
 replace F:=q.f3
 have hK2:=hK6.put (b:=(sz w1)) lB 2 (.int .i64 (vs6.length:Int))
 go_wp2_with (at_builtin;refine wp_run (v:=(sl (sz w5) 1)) (xv:=.slice ao6 vs6.length cp6) (R:=fun vv ww=>∃ao7 cp7,vv=(.slice ao7 (1+vs6.length) cp7)∧Mz 1 w rb tb cap t i k True (-31) ww i6 k6 a6 [(sz w4,x5.a),(sz w1,nodeC 8 (t.pos i) (vs6.length:Int) 0 s3 (sl (sz w5) 1)),(sz w,zeroC)] [] (.slice ao7 (1+vs6.length) cp7) ([x5.t]++vs6)) (by rfl) (by rfl) (by rfl) (by rfl) (Mz.run_apps (us:=vs6) (q.p12 (vs6.length:Int)) hK2 (by simp) (Nat.le_trans hl6 (by decide)) _) ?_;rintro v' w7 ⟨ao7,cp7,rfl,q'⟩;replace q:=q';clear q';replace F:=q.f3)
 go_wp2_with fail
 go_region_law (first|(refine q.as (sz w8) (by have:=hl6;simp;omega) ?_;clear q F;intro w9 ao9 cp9 q;have F:=q.f3)|(go_simp;refine(q.p15 (.slice ao7 (1+vs6.length) cp7)).drew.nn resZ ?_;clear q F;intro w8 x8 i8 k8 a8 hc8 ok8 q;have F:=q.f3))
 all_goals
  go_wp2_with fail
  go_light
  exact Mz.ret_head (vs:=(([x5.t]++vs6)++[x8.t])) (n:=(vs6.length:Int)) Tryz.results44 rfl rfl (by simp;omega) (q.p15 (.slice ao9 ((1+vs6.length)+1) cp9)) 2 rfl (by have:=hl6;simp;omega) (Nat.le_trans hs3 (by decide)) hposI (fun e=>⟨vs6.map labOf,_,by rw[List.map_append,List.map_append];show labOf _::_=_;rw[hc5 (ok6.out (ok8.out e))];rfl,by simp,hP6 (ok8.out e),hc8 e⟩) (by omega)
end Go.Proofs.YtagdihffmjopaaaGreatDoor
namespace Go.Proofs.YtagdihffmjopaaaGreatDoor
set_option linter.all false
open Go.RowKit
def enumQ:Prop:=∀{w:World} {rb tb cap i:Nat} {t:Tk} {k a:Int},Rd w rb tb cap t i k a→∀pos M:Int,(0≤pos∧pos≤7000)→(0≤M∧M≤3)→Calls Tryz.prog 43 #[.pointer (some ⟨rb,0,none⟩),.agg (nodeC 3 pos 1 M ⟨#[]⟩ nl)] w (NodeZ 1 w rb tb cap t i k True 8 (fun x=>x=3))
set_option maxRecDepth 100000 in
set_option maxHeartbeats 2000000 in
theorem itemZ (hEn:enumQ) {w:World} {rb tb cap i:Nat} {t:Tk} {k a:Int} (h:Rd w rb tb cap t i k a):Calls Tryz.prog 23 #[.pointer (some ⟨rb,0,none⟩)] w (NodeZ 1 w rb tb cap t i k True 8 (fun x=>x=3∨x=6∨x=7∨x=108∨x=208)):=by
 have hl:=h.l
 have hposI:(0:Int)≤(t.pos i:Int)∧(t.pos i:Int)≤7000:=by have:=h.good.posb i;omega
 go_enter Tryz.func23,Tryz.ntmps23
 have q:=Mz.start (wt:=1) h
 go_wp2_with fail
 refine(q.ne' (sz w) (zeroC)).lf (node20 · 0) ?_
 clear q
 intro w1 q
 have F:=q.f1
 go_wp2_with fail
 refine(q.ne' (sz w1) (nk 0 (t.pos i) nl)).lf (is41 · 0 (by decide) _) ?_
 clear q F
 intro w2 q
 have F:=q.f2
 go_wp2_with fail
 ·go_wp2_with fail
  refine q.nd implZ ?_
  clear q F
  intro w3 x3 i3 k3 a3 hc3 ok3 q
  have F:=q.f2
  go_wp2_with fail
  go_light
  exact Mz.retb (C:=fun x=>x=3∨x=6∨x=7∨x=108∨x=208) (d:=8) Tryz.results23 rfl rfl q 1 rfl (fun e=>.inr (.inr (.inl (hc3 e)))) (by omega) rfl
 ·go_wp2_with fail
  refine q.et (eat42 · _) ?_
  clear q F
  intro w4 b4 i4 hE4 q
  have F:=q.f2
  go_upto_if 13 with fail
  go_cut [] (fun wx=>∃(M0:Int) (j5:Nat),Hid (M0=0∨M0=1)∧Mz 1 w rb tb cap t i k False (0) wx j5 k a [(sz w1,nodeC 0 (t.pos i) 0 M0 ⟨#[]⟩ nl),(sz w,zeroC)] [] nl [])
  case first=>
   go_wp2_with fail
   ·go_wp2_with fail
    go_meet
    exact⟨1,i4,.inr rfl,((q.p03 1).less (by omega))⟩
   ·go_wp2_with fail
    go_meet
    exact⟨0,i4,.inl rfl,(q.less (by omega))⟩
  case rest=>
   clear F q
   obtain⟨M0,j5,HM0,q⟩:=hcut
   obtain⟨w6,hw⟩:∃x,x=wc:=⟨_,rfl⟩
   subst hw
   have F:=q.f2
   go_upto_region 6 with fail
   go_cut [24] (fun s24 wx=>∃(bc:Bool),(s24=.bool bc∧(bc=true→isB t j5 k 0 ⟨#[99,111,112,121]⟩=true∧(isB t j5 k 1 ⟨#[115,116,114,117,99,116]⟩=true∨isB t j5 k 1 ⟨#[101,110,117,109]⟩=true)))∧Mz 1 w rb tb cap t i k False (0) wx j5 k a [(sz w1,nodeC 0 (t.pos i) 0 M0 ⟨#[]⟩ nl),(sz w,zeroC)] [] nl [])
   case first=>
    cases hc0:isB t j5 k 0 ⟨#[99,111,112,121]⟩
    ·go_wp2_with fail
     refine q.lf (is41 · 0 (by decide) _) ?_
     clear q F
     intro w8 q
     have F:=q.f2
     go_wp2_with fail
     go_meet
     exact⟨false,⟨rfl,fun e=>by cases e⟩,(q.less (by omega))⟩
    ·cases hc1:isB t j5 k 1 ⟨#[115,116,114,117,99,116]⟩
     ·cases hc2:isB t j5 k 1 ⟨#[101,110,117,109]⟩
      ·go_wp2_with fail
       refine q.lf (is41 · 0 (by decide) _) ?_
       clear q F
       intro w9 q
       have F:=q.f2
       go_wp2_with fail
       refine q.lf (is41 · 1 (by decide) _) ?_
       clear q F
       intro w10 q
       have F:=q.f2
       go_wp2_with fail
       refine q.lf (is41 · 1 (by decide) _) ?_
       clear q F
       intro w11 q
       have F:=q.f2
       go_wp2_with fail
       go_meet
       exact⟨false,⟨rfl,fun e=>by cases e⟩,(q.less (by omega))⟩
      ·go_wp2_with fail
       refine q.lf (is41 · 0 (by decide) _) ?_
       clear q F
       intro w12 q
       have F:=q.f2
       go_wp2_with fail
       refine q.lf (is41 · 1 (by decide) _) ?_
       clear q F
       intro w13 q
       have F:=q.f2
       go_wp2_with fail
       refine q.lf (is41 · 1 (by decide) _) ?_
       clear q F
       intro w14 q
       have F:=q.f2
       go_wp2_with fail
       go_meet
       exact⟨true,⟨rfl,fun _=>⟨hc0,.inr hc2⟩⟩,(q.less (by omega))⟩
     ·go_wp2_with fail
      refine q.lf (is41 · 0 (by decide) _) ?_
      clear q F
      intro w15 q
      have F:=q.f2
      go_wp2_with fail
      refine q.lf (is41 · 1 (by decide) _) ?_
      clear q F
      intro w16 q
      have F:=q.f2
      go_wp2_with fail
      go_meet
      exact⟨true,⟨rfl,fun _=>⟨hc0,.inl hc1⟩⟩,(q.less (by omega))⟩
   case rest=>
    clear F q
    obtain⟨bc,⟨rfl,hbc⟩,q⟩:=hcut
    obtain⟨w17,hw⟩:∃x,x=wc:=⟨_,rfl⟩
    subst hw
    have F:=q.f2
    have HBC:Hid (bc=true→isB t j5 k 0 ⟨#[99,111,112,121]⟩=true∧(isB t j5 k 1 ⟨#[115,116,114,117,99,116]⟩=true∨isB t j5 k 1 ⟨#[101,110,117,109]⟩=true)):=hbc
    clear hbc
    have hi1:(j5:Int)<(t.len:Int):=by have:=q.st.rd.lt;omega
    have hfew:(t.len:Int)≤6001:=by have:=h.good.few;omega
    have r1:=q.st.rd.r1
    have fr1:=q.st.rd.fz 1
    have lr:=q.st.rd.l
    go_upto_if 24 with fail
    go_cut [] (fun wx=>∃(M:Int) (j18:Nat),Hid ((M=0∨M=1)∨((M=2∨M=3)∧(isB t j18 k 0 ⟨#[115,116,114,117,99,116]⟩=true∨isB t j18 k 0 ⟨#[101,110,117,109]⟩=true)))∧Mz 1 w rb tb cap t i k False (0) wx j18 k a [(sz w1,nodeC 0 (t.pos i) 0 M ⟨#[]⟩ nl),(sz w,zeroC)] [] nl [])
    case first=>
     go_wp2_with fail
     ·have hlt:j5+1<t.len:=(isB_lt h.good q.st.rd.lt (HBC.out ‹_›).1).2
      have HS2:Hid (isB t (j5+1) k 0 ⟨#[115,116,114,117,99,116]⟩=true∨isB t (j5+1) k 0 ⟨#[101,110,117,109]⟩=true):=(HBC.out ‹_›).2
      go_wp2_with fail
      go_meet
      exact⟨(wrap64 (M0+2)),(j5+1),(.inr ⟨HM0.out.elim (fun e=>.inl (by rw[e];unfold wrap64;decide)) (fun e=>.inr (by rw[e];unfold wrap64;decide)),HS2.out⟩),((((q.goI (j':=j5+1) hlt (Nat.lt_succ_self _)).p03 (wrap64 (M0+2))).up (g':=False) (fun e=>absurd e (fun x=>x))).less (by omega))⟩
     ·go_wp2_with fail
      go_meet
      exact⟨M0,j5,(.inl HM0.out),(q.less (by omega))⟩
    case rest=>
     clear F r1 fr1 lr q
     obtain⟨M,j18,HM,q⟩:=hcut
     have HMR:Hid (0≤M∧M≤3):=by
      show 0≤M∧M≤3
      rcases HM.out with(h9|h9)|⟨h9|h9,-⟩<;>omega
     obtain⟨w19,hw⟩:∃x,x=wc:=⟨_,rfl⟩
     subst hw
     have F:=q.f2
     go_wp2_with fail
     refine q.et (eat42 · _) ?_
     clear q F
     intro w20 b20 i20 hE20 q
     have F:=q.f2
     go_wp2_with fail
     ·go_wp2_with fail
      refine(q.p00 3).nd (structZ · _ _ hposI HMR.out) ?_
      clear q F
      intro w21 x21 i21 k21 a21 hc21 ok21 q
      have F:=q.f2
      go_wp2_with fail
      go_light
      exact Mz.retb (C:=fun x=>x=3∨x=6∨x=7∨x=108∨x=208) (d:=8) Tryz.results23 rfl rfl q 1 rfl (fun e=>.inl (hc21 e)) (by omega) rfl
     ·go_wp2_with fail
      refine q.et (eat42 · _) ?_
      clear q F
      intro w22 b22 i22 hE22 q
      have F:=q.f2
      go_wp2_with fail
      ·go_wp2_with fail
       refine((q.p00 3).p02 1).nd (hEn · _ _ hposI HMR.out) ?_
       clear q F
       intro w23 x23 i23 k23 a23 hc23 ok23 q
       have F:=q.f2
       go_wp2_with fail
       go_light
       exact Mz.retb (C:=fun x=>x=3∨x=6∨x=7∨x=108∨x=208) (d:=8) Tryz.results23 rfl rfl q 1 rfl (fun e=>.inl (hc23 e)) (by omega) rfl
      ·go_wp2_with fail
       refine q.et (eat42 · _) ?_
       clear q F
       intro w24 b24 i24 hE24 q
       have HM01:Hid (M=0∨M=1):=HM.out.elim id (fun h9=>by
        exfalso
        have e20:b20=false:= ‹_›
        have e22:b22=false:= ‹_›
        rcases h9.2 with h9|h9
        ·rw[←hE20.is_,e20] at h9
         cases h9
        ·rw[←hE20.no e20,←hE22.is_,e22] at h9
         cases h9)
       have F:=q.f2
       go_wp2_with fail
       ·go_wp2_with fail
        refine(q.p00 6).nm name40 ?_
        clear q F
        intro w25 s25 i25 k25 a25 hs25 ho25 ok25 q
        have F:=q.f2
        go_wp2_with fail
        refine(q.p04 s25).wn (want39 · _) ?_
        clear q F
        intro w26 i26 k26 a26 ok26 q
        have F:=q.f2
        go_wp2_with fail
        go_loopg [4] (ml t i26 k26) (fun g _ wr=>∃(v:Value) (vs:List (List Value)) (j:Nat) (kj aj:Int),g=ml t j kj∧Few 4 vs j kj∧(kj=0→∀x∈vs.map labOf,x=8)∧Mz 1 w rb tb cap t i k True (-32) wr j kj aj [(sz w1,nodeC 6 (t.pos i) 0 M s25 v),(sz w,zeroC)] [] v vs)
        case atStart=>exact⟨nl,[],i26,k26,a26,rfl,⟨fun _=>by simp,by simp⟩,(fun _ x hx=>by cases hx),(q.less (by omega))⟩
        case round=>
         clear F q
         obtain⟨v,vs,j,kj,aj,hgk,hF,hE,q⟩:=hrel
         have hj:=q.st.rd.lt
         have hposJ:(0:Int)≤(t.pos j:Int)∧(t.pos j:Int)≤7000:=by have:=h.good.posb j;omega
         have HG:Hid (gk=ml t j kj):=hgk
         clear hgk
         obtain⟨ao27,cp27,rfl⟩:=q.shape
         have F:=q.f2
         cases hk0:(kj==0)
         ·go_wp2_with fail
          refine q.lf ok21b ?_
          clear q F
          intro w28 q
          have F:=q.f2
          go_wp2_with fail
          go_light
          exact Mz.retb (C:=fun x=>x=3∨x=6∨x=7∨x=108∨x=208) (d:=8) Tryz.results23 rfl rfl (q.fo 6 (t.pos i) 0 M s25 (Nat.le_trans hF.2 (by decide)) hposI (Nat.le_trans hs25 (by decide)) (fun e=>absurd e (by simpa using hk0))) 1 rfl (fun _=>.inr (.inl (lab_ne (by decide)))) (by omega) rfl
         ·obtain rfl:kj=0:=by simpa using hk0
          have hb1:Hid (i≤j∧k=0∧i<j):=⟨q.le,q.ok rfl,q.go trivial rfl⟩
          have HE:Hid (∀x∈vs.map labOf,x=8):=hE rfl
          clear hE
          have hFl:vs.length≤6005:=by have:=hF.1 rfl;have:=h.good.few;omega
          replace q:=q.rebase
          go_wp2_with fail
          refine q.lf ok21b ?_
          clear q F
          intro w29 q
          have F:=q.f2
          go_wp2_with fail
          refine q.et (eat42 · _) ?_
          clear q F
          intro w30 b30 i30 hE30 q
          have F:=q.f2
          go_wp2_with fail
          ·go_wp2_with fail
           refine q.nd (fun x=>(headZp x).mono (fun _ _ h=>h.node)) ?_
           clear q F
           intro w31 x31 i31 k31 a31 hc31 ok31 q
           have F:=q.f2
           go_wp2_with fail
           refine(q.ne' (sz w31) x31.a).wn (want39 · _) ?_
           clear q F
           intro w32 i32 k32 a32 ok32 q
           have F:=q.f3
           go_wp2_with (at_builtin;refine q.ap (sz w32) (Nat.le_trans hFl (by decide)) ?_;clear q F;intro w33 ao33 cp33 q;have F:=q.f3)
           go_wp2_with fail
           replace q:=(q.p15 (.slice ao33 (vs.length+1) cp33)).pop
           go_roundg (ml t i32 k32)
           case measure=>rw[HG.out];exact ml_lt hj q.le (q.go trivial)
           case rel=>exact⟨(.slice ao33 (vs.length+1) cp33),(vs++[x31.t]),i32,k32,a32,rfl,Few.snoc (t:=t) hF rfl hj h.good (q.go trivial),(fun e=>by rw[List.map_append];exact all_snoc (C:=fun x=>x=8) HE.out (hc31 (ok32.out e))),q.unbase (s':= -32) (g':=True) hb1.out.1 (fun _=>hb1.out.2.1) (fun _ _=>hb1.out.2.2) (by omega)⟩
          ·go_wp2_with fail
           go_light
           exact Mz.retb (C:=fun x=>x=3∨x=6∨x=7∨x=108∨x=208) (d:=8) Tryz.results23 rfl rfl ((q.fo 6 (t.pos i) 0 M s25 (Nat.le_trans hF.2 (by decide)) hposI (Nat.le_trans hs25 (by decide)) (fun e=>Gr.of_trait ⟨HM01.out,HE.out⟩)).unbase (s':= -31) (g':=True) hb1.out.1 (fun _=>hb1.out.2.1) (fun _ _=>hb1.out.2.2) (by omega)) 1 rfl (fun _=>.inr (.inl (lab_ne (by decide)))) (by omega) rfl
       ·go_wp2_with fail
        refine(headZb q.st.rd).mono ?_
        rintro e w34 ⟨p34,n34,s34,ao34,cp34,vs34,i34,k34,a34,rfl,hx34,hK34,hl34,hs34,hp34,hC34,hz34⟩
        have HC:Hid (k34=0→∃ps x,vs34.map labOf=9::(ps++[x])∧(ps.length:Int)=n34∧(∀p∈ps,p=12)∧tyK x):=hC34
        clear hC34
        have ok34:Hid (k34=0→k=0):=hx34.ok
        replace q:=(q.list hx34 hK34 hz34).up (g':=True) (fun _ e=>Nat.lt_of_le_of_lt q.le (hx34.go trivial e))
        clear hx34 hK34 hz34
        replace F:=q.f2
        go_wp2_with fail
        go_region_law (first|(refine q.as (sz w35) (Nat.le_trans hl34 (by decide)) ?_;clear q F;intro w36 ao36 cp36 q;have F:=q.f3)|(go_simp;refine(q.ne' (sz w34) (nodeC 8 (t.pos i) n34 M s34 (.slice ao34 vs34.length cp34))).drew.nd blkZ ?_;clear q F;intro w35 x35 i35 k35 a35 hc35 ok35 q;have F:=q.f3))
        all_goals
         go_wp2_with fail
         go_light
         exact Mz.retb (C:=fun x=>x=3∨x=6∨x=7∨x=108∨x=208) (d:=8) Tryz.results23 rfl rfl ((q.p05 (.slice ao36 (vs34.length+1) cp36)).fo 8 (t.pos i) n34 M s34 (by have:=hl34;simp;omega) hposI hs34 (fun e=>by obtain⟨ps,x,h1,h2,h3,h4⟩:=HC.out (ok35.out e);exact Gr.of_fn ⟨HM01.out,ps,x,[labOf x35.t],by rw[List.map_append,h1];simp,h2,h3,h4,by simp,fun y hy=>by have h9:=List.mem_singleton.1 hy;rw[h9];exact hc35 e⟩)) 2 rfl (fun e=>.inr (.inr (.inr (by obtain⟨ps,x,h1,h2,h3,h4⟩:=HC.out (ok35.out e);have h5:=congrArg List.length h1;simp at h5;show lab 8 n34 M s34 (vs34.length+1)=108∨lab 8 n34 M s34 (vs34.length+1)=208;unfold lab;rw[if_pos rfl,if_pos (by omega)];by_cases h9:M=0;exact .inr (if_pos h9);exact .inl (if_neg h9))))) (by omega) rfl
end Go.Proofs.YtagdihffmjopaaaGreatDoor
