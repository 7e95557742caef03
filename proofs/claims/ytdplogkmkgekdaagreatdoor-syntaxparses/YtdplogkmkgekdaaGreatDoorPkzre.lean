/- The project's parser: enums. -/
import Derived.Test.YtdplogkmkgekdaaGreatDoorPkzh
import Derived.Test.YtdplogkmkgekdaaGreatDoorPkzo
import Derived.Test.YtdplogkmkgekdaaGreatDoorFRefdn
set_option linter.all false
set_option maxRecDepth 100000
set_option maxHeartbeats 4000000
namespace Go.Proofs.YtdplogkmkgekdaaGreatDoor.Pj
open Go.RowKit
theorem app0 {P:Program} {f:Nat} {a:Value} {w:World} {Q:Ending→World→Prop} (h:Calls P f #[a] w Q):Calls P f (#[a]++#[]) w Q:=by simpa using h
theorem few_le {n a b l:Nat} (h:l≤6001) (h1:n≤b - a) (h2:b<l):n≤6010:=by omega
theorem ein152:Ein 152:=ein_of (f:=152) (fn:=Tryz.f152) (by kernel_rfl) (by kernel_rfl) rfl
theorem ein156:Ein 156:=ein_of (f:=156) (fn:=Tryz.f156) (by kernel_rfl) (by kernel_rfl) rfl
theorem ein139:Ein 139:=ein_of (f:=139) (fn:=Tryz.f139) (by kernel_rfl) (by kernel_rfl) rfl
theorem ein192:Ein 192:=ein_of (f:=192) (fn:=Tryz.f192) (by kernel_rfl) (by kernel_rfl) rfl
theorem makeP {N:Nat} (hT:rdP 70 N (fun t n=>gG t n 0)) (hE:rdP 81 N (fun t n=>gG t n 1)) {w:World} {rb tb i:Nat} {cap:Cp} {t:Tk} (h:Rd w rb tb cap t i 0 0) (hN:t.len - i≤N+1):
 Calls Tryz.prog 77 #[.pointer (some ⟨rb,0,none⟩)] w (NodeP w rb tb cap t i True (fun n=>gMake t (gG t n 0) (gG t n 1) n)):=by
 have hl:=h.l
 have hposI:(0:Int)≤(t.pos i:Int)∧(t.pos i:Int)≤7000:=by have:=h.good.posb i;omega
 go_enter Tryz.func77,Tryz.ntmps77
 have q:=Mf.start h
 go_wp2_with fail
 refine(q.ne' (sz w) (zeroC)).lf (nodeP · 44) ?_
 clear q
 intro w1 q
 have F:=q.f1
 go_wp2_with fail
 refine(q.ne' (sz w1) (nk 44 (t.pos i) nl)).wn (mustP · _ (ask)) (fun w' hk hw=>⟨rfl,.inr ((q.ne' (sz w1) (nk 44 (t.pos i) nl)).thr hk (by simp only[gMake_is];unfold gMake2 gLooseB gInit;exact wrt))⟩) ?_
 clear q F
 intro w2 m2 q
 have F:=q.f2
 go_wp2_with fail
 refine q.nm (pathP2 · 2 (by decide) (by decide)) (fun w' p hk hw=>⟨rfl,.inr (q.thr hk (by simp only[gMake_is];unfold gMake2 gLooseB gInit;exact wrt))⟩) ?_
 clear q F
 intro w3 s3 i3 hs3 hl3 m3 q
 have F:=q.f2
 go_wp2_with fail
 refine(q.p04 s3).ln (fun hr=>typesP hT hr (by have:=hr.lt;have:=q.go trivial;omega)) (fun w' p hk hw=>⟨rfl,.inr ((q.p04 s3).thr hk (by simp only[gMake_is];unfold gMake2 gLooseB gInit;exact wrt))⟩) ?_
 clear q F
 intro w4 ao4 cp4 vs4 i4 V4 hl4 m4 q
 have F:=q.f2
 have HVL:Hid (V4.length=vs4.length):=q.fv.len
 have hl5:vs4.length≤6001:=by have:=hl4.out.2;have:=q.st.rd.lt;have:=h.good.few;omega
 go_wp2_with fail
 refine((q.p05 (.slice ao4 vs4.length cp4)).p03 (vs4.length:Int)).wn (mustP · _ (ask)) (fun w' hk hw=>⟨rfl,.inr (((q.p05 (.slice ao4 vs4.length cp4)).p03 (vs4.length:Int)).thr hk (by simp only[gMake_is];unfold gMake2 gLooseB gInit;exact wrt))⟩) ?_
 clear q F
 intro w5 m5 q
 have F:=q.f2
 have HTH6:Hid (∀p,Wr (fun n=>loop (gLooseB t (gInit t (gG t n 1)) ⟨#[125]⟩) n []) ⟨i4+1,0,0⟩ p→Wr (fun n=>gMake t (gG t n 0) (gG t n 1) n) ⟨i,0,0⟩ p):=fun p hw=>(by simp only[gMake_is];unfold gMake2;exact wrt)
 have HNN6:Hid (∀m,i4+1≤m→m<t.len→t.len - m≤N):=fun m h1 h2=>(by have:=q.go trivial;omega)
 go_wp2_with fail
 go_region_law (first|(refine q.aps hVx6 hKx6 (Nat.le_trans hl5 (by decide)) (few_le h.good.few hlx6.out.2.1 q.st.rd.lt) ?_;clear q F hKx6;intro w8 ao6 cp6 q;have F:=q.f2)|(go_simp;refine q.lh (fun hr=>listP hr (mm:=fun n=>loop (gLooseB t (gInit t (gG t n 1)) ⟨#[125]⟩) n []) (ask) (fun _=>ask) (fun _=>lit) ein156 (loose_run (fun n=>st_gInit (gG_st _ _ _))).1 (loose_run (fun n=>st_gInit (gG_st _ _ _))).2 (fun{w' j} hr' hj=>app0 (initP hE hr' (Nat.le_succ_of_le (HNN6.out _ hj hr'.lt))))) (fun w' p hk hw=>⟨rfl,.inr (q.thr hk (HTH6.out _ hw))⟩) ?_;clear q F;intro w7 aox6 cpx6 vs6 i6 V6 hlx6 hVx6 hKx6 m6 q;have F:=q.f2)|(replace q:=q.drew;go_simp;refine q.lf (fun _=>looseP _) ?_;clear q F;intro w6 q;have F:=q.f2))
 all_goals
  have hVl:V4.length=vs4.length:=HVL.out
  go_wp2_with fail
  go_light
  exact Mf.rt ((q.p05 (.slice ao6 (vs4.length+vs6.length) cp6)).fo 44 (t.pos i) 0 (vs4.length:Int) s3 (by have:=hlx6.out.2.1;have:=q.st.rd.lt;have:=h.good.few;simp;omega) hposI hs3) Tryz.results77 1 (by simp only[gMake_is];unfold gMake2;rw[←hVl];exact evt)
theorem structP {N:Nat} (hT:rdP 70 N (fun t n=>gG t n 0)) {w:World} {rb tb i:Nat} {cap:Cp} {t:Tk} (h:Rd w rb tb cap t i 0 0) (hN:t.len - i≤N+1) (hb:isB t i 0 0 ⟨#[115,116,114,117,99,116]⟩=true):
 Calls Tryz.prog 61 #[.pointer (some ⟨rb,0,none⟩)] w (NodeP w rb tb cap t i True (fun n=>seq (gAdd 1) (gStruct t (gG t n 0) (t.pos i) 0 n))):=by
 have hl:=h.l
 have hposI:(0:Int)≤(t.pos i:Int)∧(t.pos i:Int)≤7000:=by have:=h.good.posb i;omega
 have HB:=Hid_nx hb
 clear hb
 go_enter Tryz.func61,Tryz.ntmps61
 have q:=Mf.start h
 go_wp2_with fail
 refine(q.ne' (sz w) (zeroC)).lf (nodeP · 3) ?_
 clear q
 intro w1 q
 have F:=q.f1
 go_wp2_with fail
 refine(q.ne' (sz w1) (nk 3 (t.pos i) nl)).wy (mustP · _ (ask)) HB.out ?_
 clear q F
 intro w2 q
 have F:=q.f2
 go_wp2_with fail
 refine q.nm (nameP2 ·) (fun w' p hk hw=>⟨rfl,.inr (q.thr hk (by simp only[gStruct_is];unfold gStruct2 gLooseB gTyped;exact wrt))⟩) ?_
 clear q F
 intro w3 s3 i3 hs3 hl3 m3 q
 have F:=q.f2
 go_wp2_with fail
 refine(q.p04 s3).nn (fun hr=>plainGensP hr) (fun w' p hk hw=>⟨rfl,.inr ((q.p04 s3).thr hk (by simp only[gStruct_is];unfold gStruct2 gLooseB gTyped;exact wrt))⟩) ?_
 clear q F
 intro w4 x4 i4 y4 hl4 m4 q
 have F:=q.f2
 have hposV:(0:Int)≤(t.pos i4:Int)∧(t.pos i4:Int)≤7000:=by have:=h.good.posb i4;omega
 go_wp2_with fail
 refine(q.ne' (sz w4) (x4.a)).lf (nodeP · 4) ?_
 clear q F
 intro w5 q
 have F:=q.f3
 go_wp2_with fail
 refine(q.ne' (sz w5) (nk 4 (t.pos i4) nl)).wn (mustP · _ (ask)) (fun w' hk hw=>⟨rfl,.inr ((q.ne' (sz w5) (nk 4 (t.pos i4) nl)).thr hk (by simp only[gStruct_is];unfold gStruct2 gLooseB gTyped;exact wrt))⟩) ?_
 clear q F
 intro w6 m6 q
 have F:=q.f4
 go_wp2_with fail
 refine q.lf (fun _=>looseP _) ?_
 clear q F
 intro w7 q
 have F:=q.f4
 go_wp2_with fail
 refine q.li (fun hr=>listP hr (mm:=fun n=>loop (gLooseB t (gTyped t (gG t n 0) 5 ⟨#[112,117,98]⟩) ⟨#[125]⟩) n []) (ask) (fun _=>ask) (fun _=>lit) ein138 (loose_run (fun n=>st_gTyped (gG_st _ _ _))).1 (loose_run (fun n=>st_gTyped (gG_st _ _ _))).2 (fun{w' j} hr' hj=>(by have h1:=hr'.lt;have h2:=q.go trivial;simpa using fieldP hT hr' (by omega)))) (fun w' p hk hw=>⟨rfl,.inr (q.thr hk (by simp only[gStruct_is];unfold gStruct2;exact wrt))⟩) ?_
 clear q F
 intro w8 ao8 cp8 vs8 i8 V8 hl8 m8 q
 have F:=q.f4
 have hl9:vs8.length≤6001:=by have:=hl8.out.2;have:=q.st.rd.lt;have:=h.good.few;omega
 go_wp2_with fail
 go_light
 refine Mf.rt (((((q.p05 (.slice ao8 vs8.length cp8)).fo 4 (t.pos i4) 0 0 ⟨#[]⟩ (by omega) hposV).swap).p25 (sl (sz w8) 2)).l2 (sz w8) 3 (t.pos i) 0 0 s3 hposI hs3) Tryz.results61 3 (by simp only[gStruct_is];unfold gStruct2;exact evt) ?_
 simp[set11,World.setCell_alloc_past,F,Nat.lt_succ_of_lt]
end Go.Proofs.YtdplogkmkgekdaaGreatDoor.Pj
namespace Go.Proofs.YtdplogkmkgekdaaGreatDoor.Pj
open Go.RowKit
theorem matchP {N:Nat} (hE:rdP 81 N (fun t n=>gG t n 1)) (hQ:rdP 86 N (fun t n=>gG t n 5)) {w:World} {rb tb i:Nat} {cap:Cp} {t:Tk} (h:Rd w rb tb cap t i 0 0) (hN:t.len - i≤N+1):
 Calls Tryz.prog 72 #[.pointer (some ⟨rb,0,none⟩)] w (NodeP w rb tb cap t i True (fun n=>gMatch t (gG t n 1) (gG t n 5) n)):=by
 have hl:=h.l
 have hposI:(0:Int)≤(t.pos i:Int)∧(t.pos i:Int)≤7000:=by have:=h.good.posb i;omega
 go_enter Tryz.func72,Tryz.ntmps72
 have q:=Mf.start h
 go_wp2_with fail
 refine(q.ne' (sz w) (zeroC)).lf (nodeP · 34) ?_
 clear q
 intro w1 q
 have F:=q.f1
 go_wp2_with fail
 refine(q.ne' (sz w1) (nk 34 (t.pos i) nl)).wn (mustP · _ (ask)) (fun w' hk hw=>⟨rfl,.inr ((q.ne' (sz w1) (nk 34 (t.pos i) nl)).thr hk (by simp only[gMatch_is];unfold gMatch2 gLooseB gArm;exact wrt))⟩) ?_
 clear q F
 intro w2 m2 q
 have F:=q.f2
 have HTA3:Hid (∀p,Wr (fun n=>gG t n 1) ⟨i+1,0,0⟩ p→Wr (fun n=>gMatch t (gG t n 1) (gG t n 5) n) ⟨i,0,0⟩ p):=fun p hw=>(by simp only[gMatch_is];unfold gMatch2 gLooseB gArm;exact wrt)
 go_upto_region 3 with fail
 go_cut [] (fun wx=>∃(i3:Nat) (y3:List Nr) (v:Value) (vs:List (List Value)),Hid (i+1<i3)∧Ev (fun n=>gG t n 1) ⟨i+1,0,0⟩ (y3,⟨i3,0,0⟩)∧Hid (vs.length=1)∧Mf w rb tb cap t i True wx i3 [(sz w1,nk 34 (t.pos i) v),(sz w,zeroC)] [] v vs [] [y3])
 case first=>
  go_wp2_with fail
  go_region_law (first|(refine q.as (sz w3) (by simp) ?_;clear q F;intro w4 ao3 cp3 q;have F:=q.f2)|(replace q:=q.drew;go_simp;refine q.nd (fun hr=>hE hr (by have:=hr.lt;have:=q.go trivial;omega)) (fun w' p hk hw=>⟨rfl,.inr (q.thr hk (HTA3.out _ hw))⟩) ?_;clear q F;intro w3 x3 i3 y3 hl3 m3 q;have F:=q.f2))
  all_goals
   go_wp2_with fail
   go_meet
   exact⟨i3,y3,_,_,hl3,m3,(by simp:_=_),q.p05 (.slice ao3 (0+1) cp3)⟩
 case rest=>
  clear F q
  obtain⟨i3,y3,v,vs,hl3,m3,HV1,q⟩:=hcut
  obtain⟨w4,hw⟩:∃x,x=wc:=⟨_,rfl⟩
  subst hw
  obtain⟨ao3,cp3,rfl⟩:=q.shape
  have F:=q.f2
  go_wp2_with fail
  refine q.wn (mustP · _ (ask)) (fun w' hk hw=>⟨rfl,.inr (q.thr hk (by simp only[gMatch_is];unfold gMatch2 gLooseB gArm;exact wrt))⟩) ?_
  clear q F
  intro w5 m4 q
  have F:=q.f2
  have HTH5:Hid (∀p,Wr (fun n=>loop (gLooseB t (gArm t (gG t n 1) (gG t n 5)) ⟨#[125]⟩) n []) ⟨i3+1,0,0⟩ p→Wr (fun n=>gMatch t (gG t n 1) (gG t n 5) n) ⟨i,0,0⟩ p):=fun p hw=>(by simp only[gMatch_is];unfold gMatch2;exact wrt)
  have HNN5:Hid (∀m,i3+1≤m→m<t.len→t.len - m≤N):=fun m h1 h2=>(by have:=q.go trivial;omega)
  go_wp2_with fail
  go_region_law (first|(refine q.aps hVx5 hKx5 (by have:=HV1.out;omega) (few_le h.good.few hlx5.out.2.1 q.st.rd.lt) ?_;clear q F hKx5;intro w8 ao5 cp5 q;have F:=q.f2)|(go_simp;refine q.lh (fun hr=>listP hr (mm:=fun n=>loop (gLooseB t (gArm t (gG t n 1) (gG t n 5)) ⟨#[125]⟩) n []) (ask) (fun _=>ask) (fun _=>lit) ein152 (loose_run (fun n=>st_gArm (gG_st _ _ _) (gG_st _ _ _))).1 (loose_run (fun n=>st_gArm (gG_st _ _ _) (gG_st _ _ _))).2 (fun{w' j} hr' hj=>app0 (armP hE hQ hr' (HNN5.out _ hj hr'.lt)))) (fun w' p hk hw=>⟨rfl,.inr (q.thr hk (HTH5.out _ hw))⟩) ?_;clear q F;intro w7 aox5 cpx5 vs5 i5 V5 hlx5 hVx5 hKx5 m5 q;have F:=q.f2)|(replace q:=q.drew;go_simp;refine q.lf (fun _=>looseP _) ?_;clear q F;intro w6 q;have F:=q.f2))
  all_goals
   go_wp2_with fail
   go_light
   exact Mf.rt ((q.p05 (.slice ao5 (vs.length+vs5.length) cp5)).fo 34 (t.pos i) 0 0 ⟨#[]⟩ (by have:=hlx5.out.2.1;have:=q.st.rd.lt;have:=h.good.few;have:=HV1.out;simp;omega) hposI) Tryz.results72 1 (by simp only[gMatch_is];unfold gMatch2;exact evt)
end Go.Proofs.YtdplogkmkgekdaaGreatDoor.Pj
namespace Go.Proofs.YtdplogkmkgekdaaGreatDoor.Pj
open Go.RowKit
theorem isB_kind {t:Tk} {i:Nat} {s:ByteArray} (h:isB t i 0 0 s=true) {q:Int} (h5:q≠5) (h3:q≠3):kindB t i 0 0 q=false:=by
 unfold isB at h
 unfold kindB
 simp only[Bool.and_eq_true,Bool.or_eq_true,beq_iff_eq] at h
 have e:((t.kind (i+0):Int)==q)=false:=by
  rw[beq_eq_false_iff_ne]
  rcases h.2.2.1 with e|e<;>omega
 rw[e]
 simp
theorem ev_noName {t:Tk} {i:Nat} (hk:kindB t i 0 0 2=false):Ev (fun _=>gName t) ⟨i,0,0⟩ (⟨#[]⟩,⟨i,4,t.pos i⟩):=Ev.bnd' ev_kind (Ev.no hk (Ev.seq (ev_bad ⟨rfl,fun _=>⟨rfl,rfl⟩,fun h=>absurd rfl h⟩) Ev.ret'))
theorem ev_noPath {t:Tk} {i most:Nat} (hk:kindB t i 0 0 2=false):Ev (fun n=>gPath t n most) ⟨i,0,0⟩ (⟨#[]⟩,⟨i,4,t.pos i⟩):=by
 have h2:EvL (fun _=>gPathB t most) (⟨#[]⟩,1,false) ⟨i,4,t.pos i⟩ ((⟨#[]⟩,1,false),⟨i,4,t.pos i⟩):=EvL.stop (pb_no (and_l (isB_off rfl)))
 exact Ev.bnd' (ev_noName hk) (Ev.bnd' (x:=fun fu=>loop (gPathB t most) fu (⟨#[]⟩,1,false)) h2.ev Ev.ret')
theorem typ_rp {t:Tk} {i:Nat} (h:isB t i 0 0 ⟨#[41]⟩=true):∃y,Ev (fun n=>gG t n 0) ⟨i,0,0⟩ (y,⟨i,4,t.pos i⟩):=
 ⟨_,Ev.up (m:=fun n=>gTyp t (gG t n 0) n) (Ev.bnd' ev_at (Ev.bnd' (ev_eno (isB_ne h (lit))) (Ev.no rfl (Ev.bnd' (ev_eno (isB_ne h (lit))) (Ev.no rfl (Ev.bnd' (ev_eno (isB_ne h (lit))) (Ev.no rfl (Ev.bnd' ev_is (Ev.bnd' ev_is (Ev.no (or_n (isB_ne h (lit)) (isB_ne h (lit))) (Ev.bnd' (ev_eno (isB_ne h (lit))) (Ev.no rfl (Ev.bnd' (ev_noPath (isB_kind h (by decide) (by decide))) (Ev.bnd' (ev_eno (isB_off rfl)) (Ev.no rfl Ev.ret'))))))))))))))) (fun _=>rfl)⟩
theorem pat_rp {t:Tk} {i:Nat} (h:isB t i 0 0 ⟨#[41]⟩=true):∃y,Ev (fun n=>gG t n 5) ⟨i,0,0⟩ (y,⟨i,4,t.pos i⟩):=
 ⟨_,Ev.up (m:=fun n=>gPattern t (gG t n 5) n) (Ev.bnd' ev_at (Ev.bnd' (ev_eno (isB_ne h (lit))) (Ev.no rfl (Ev.bnd' (ev_eno (isB_ne h (lit))) (Ev.no rfl (Ev.bnd' ev_kind (Ev.no (isB_kind h (by decide) (by decide)) (Ev.bnd' ev_is (Ev.bnd' ev_is (Ev.no (or_n (isB_ne h (lit)) (isB_ne h (lit))) (Ev.bnd' (ev_eno (isB_ne h (lit))) (Ev.no rfl (Ev.bnd' ev_is (Ev.bnd' ev_is (Ev.no (or_n (isB_ne h (lit)) (isB_ne h (lit))) (Ev.bnd' (ev_noPath (isB_kind h (by decide) (by decide))) (Ev.bnd' ev_ok (Ev.no (and_l rfl) (Ev.bnd' ev_is (Ev.no (isB_off rfl) Ev.ret')))))))))))))))))))) (fun _=>rfl)⟩
theorem ev_part {t:Tk} {s s':Rs} {y':List Nr} (h:Ev (fun n=>gPart (gG t n 0)) s (y',s')):∃y,Ev (fun n=>gG t n 0) s (y,s')∧y'=pf y:=by
 obtain⟨a,ha⟩:=h
 obtain⟨q,h1,h2⟩:=bnd_some (ha a (Nat.le_refl _))
 obtain⟨rfl,rfl⟩:pf q.1=y'∧q.2=s':=by simpa[ret] using h2
 exact⟨q.1,⟨a,fun n hn=>gG_le t a n 0 hn _ _ h1⟩,rfl⟩
theorem wr_part {t:Tk} {s:Rs} {p:Int} (h:Wr (fun n=>gPart (gG t n 0)) s p):Wr (fun n=>gG t n 0) s p:=by
 obtain⟨a,ha⟩:=h
 refine⟨a,fun n hn r hr=>?_⟩
 exact ha n hn (pf r.1,r.2) (bnd_q hr)
theorem PLoop.unmap {t:Tk} {bet en:ByteArray} {lo:Bool} {j:Nat} {F:List (List Nr)} {r:Res} (h:PLoop t (fun n=>gPart (gG t n 0)) bet en lo j F r):∀F0,F=F0.map pf→(∀G j',r=.inl (G,j')→∃G0,G=G0.map pf∧PLoop t (fun n=>gG t n 0) bet en lo j F0 (.inl (G0,j')))∧∀p,r=.inr p→PLoop t (fun n=>gG t n 0) bet en lo j F0 (.inr p):=by
 induction h using PLoop.ind with
 |stop h0 h1 h2=>
  intro F0 hF
  refine⟨fun G j' e=>?_,fun p e=>by simp at e⟩
  obtain⟨rfl,rfl⟩:=Prod.mk.inj (Sum.inl.inj e)
  exact⟨F0,hF,.stop h0 h1 h2⟩
 |stop0 h0 h1=>
  intro F0 hF
  refine⟨fun G j' e=>?_,fun p e=>by simp at e⟩
  obtain⟨rfl,rfl⟩:=Prod.mk.inj (Sum.inl.inj e)
  exact⟨F0,hF,.stop0 h0 h1⟩
 |thrEnd h0 h1 h2=>
  intro F0 hF
  refine⟨fun G j' e=>by simp at e,fun p e=>?_⟩
  rw[←Sum.inr.inj e]
  exact .thrEnd h0 h1 h2
 |endLoose h0 h1 h2=>
  intro F0 hF
  refine⟨fun G j' e=>?_,fun p e=>by simp at e⟩
  obtain⟨rfl,rfl⟩:=Prod.mk.inj (Sum.inl.inj e)
  exact⟨F0,hF,.endLoose h0 h1 h2⟩
 |next h1 h2 h3 h4 ih=>
  intro F0 hF
  obtain⟨y,hy,rfl⟩:=ev_part h3
  obtain⟨k1,k2⟩:=ih (F0++[y]) (by rw[hF,List.map_append];rfl)
  refine⟨fun G j' e=>?_,fun p e=>.next h1 h2 hy (k2 p e)⟩
  obtain⟨G0,e1,e2⟩:=k1 G j' e
  exact⟨G0,e1,.next h1 h2 hy e2⟩
 |thr h1 h2 h3=>
  intro F0 hF
  refine⟨fun G j' e=>by simp at e,fun p e=>?_⟩
  rw[←Sum.inr.inj e]
  exact .thr h1 h2 (wr_part h3)
def gParts (t:Tk) (T:GP (List Nr)) (fu:Nat):GP (List (List Nr)):=bnd (bnd (gIs t 0 ⟨#[41]⟩) (fun c=>seq (cond c (gBad t) (ret ())) (gList t T ⟨#[41]⟩ fu))) (fun ks=>ret (ks.map pf))
theorem parts_run {t:Tk} {i:Nat}:(∀F j,PRun t (fun n=>gPart (gG t n 0)) ⟨#[44]⟩ ⟨#[41]⟩ false false i (.inl (F,j))→Ev (fun n=>gParts t (gG t n 0) n) ⟨i,0,0⟩ (F,⟨j,0,0⟩))∧∀p,PRun t (fun n=>gPart (gG t n 0)) ⟨#[44]⟩ ⟨#[41]⟩ false false i (.inr p)→Wr (fun n=>gParts t (gG t n 0) n) ⟨i,0,0⟩ p:=by
 have R:=(rowLike (t:=t) (en:=⟨#[41]⟩) (X:=fun n=>gG t n 0) (fun n=>gG_st _ _ _)).sm (lit) (lit) (i:=i)
 cases hc:isB t i 0 0 ⟨#[41]⟩
 ·have e:∀r,PRun t (fun n=>gPart (gG t n 0)) ⟨#[44]⟩ ⟨#[41]⟩ false false i r→(∀G j',r=.inl (G,j')→∃G0,G=G0.map pf∧PRun t (fun n=>gG t n 0) ⟨#[44]⟩ ⟨#[41]⟩ false false i (.inl (G0,j')))∧∀p,r=.inr p→PRun t (fun n=>gG t n 0) ⟨#[44]⟩ ⟨#[41]⟩ false false i (.inr p):=by
   rintro r (⟨h1,_,_⟩|⟨y,j,h1,h2,h3⟩|⟨p,h1,h2,rfl⟩)
   ·exact absurd h1 (by decide)
   ·obtain⟨y0,hy,rfl⟩:=ev_part h2
    obtain⟨k1,k2⟩:=h3.unmap [y0] rfl
    refine⟨fun G j' e=>?_,fun p e=>.some h1 hy (k2 p e)⟩
    obtain⟨G0,e1,e2⟩:=k1 G j' e
    exact⟨G0,e1,.some h1 hy e2⟩
   ·refine⟨fun G j' e=>by simp at e,fun p e=>?_⟩
    rw[←Sum.inr.inj e]
    exact .thr h1 (wr_part h2)
  refine⟨fun F j h=>?_,fun p h=>?_⟩
  ·obtain⟨G0,rfl,h2⟩:=(e _ h).1 F j rfl
   exact Ev.bnd' (Ev.bnd' ev_is (Ev.seq (Ev.no hc Ev.ret') (Ev.bnd' (ev_eno hc) (Ev.no rfl (R.1 G0 j h2))))) Ev.ret'
  ·exact Wr.fst (Wr.snd ev_is (Wr.sqd (Ev.no hc Ev.ret') (Wr.snd (ev_eno hc) (Wr.no rfl (R.2 p ((e _ h).2 p rfl)))))) (fun _ _=>Sy.ret)
 ·obtain⟨y,hy⟩:=typ_rp hc
  have hy2:Ev (fun n=>gPart (gG t n 0)) ⟨i,0,0⟩ (pf y,⟨i,4,t.pos i⟩):=Ev.bnd' hy Ev.ret'
  refine⟨fun F j h=>?_,fun p h=>?_⟩
  ·rcases h with⟨h1,_,_⟩|⟨y3,j3,h1,h2,h3⟩|⟨p,h1,h2,h3⟩
   ·exact absurd h1 (by decide)
   ·have:=h2.one hy2
    simp at this
   ·simp at h3
  ·rcases h with⟨h1,_,_⟩|⟨y3,j3,h1,h2,h3⟩|⟨p3,h1,h2,h3⟩
   ·exact absurd h1 (by decide)
   ·have:=h2.one hy2
    simp at this
   ·have e1:=(h2.ev hy2).2
    rw[Sum.inr.inj h3,←e1]
    exact Wr.fst (Wr.snd ev_is (Wr.sq (Wr.yes hc wr_bad) (fun _=>syt))) (fun _ _=>Sy.ret)
theorem Mf.posb {w W:World} {rb tb i j:Nat} {cap:Cp} {t:Tk} {g:Prop} {L:List (Nat × Array Value)} {T:List (List Value)} {kv:Value} {vs:List (List Value)} {X V:List (List Nr)} {ki po n m:Int} {na:ByteArray} {v:Value} (q:Mf w rb tb cap t i g W j L ((nodeC ki po n m na v).toList::T) kv vs X V):0≤po∧po≤7000:=by
 obtain⟨h,ha⟩:=q.z.all
 have:=ha _ (.inr (List.mem_cons_self ..))
 cases h with
 |zero=>exact this.elim
 |succ h=>
  obtain⟨kind,pos,n',m',name,kv',vs',e,_,hp,_⟩:=this
  simp at e
  rw[e.2.1]
  exact hp
theorem pf_of {y:List Nr} {p:Int} (h:hp y=p):nd 5 p 0 0 ⟨#[]⟩ [y]=pf y:=by
 unfold pf
 rw[h]
def gVar2 (t:Tk) (T:GP (List Nr)) (fu:Nat):GP (List Nr):=bnd (gAt t) (fun q=>bnd (gName t) (fun vs=>bnd (gIs t 0 ⟨#[40]⟩) (fun b59=>cond b59 (seq (gWant t ⟨#[40]⟩) (bnd (gParts t T fu) (fun ks=>ret (nd 4 q 0 0 vs ks)))) (ret (nd 4 q 0 0 vs [])))))
theorem gVar_is {t:Tk} {T:GP (List Nr)} {fu:Nat}:gVar t T fu=gVar2 t T fu:=by
 unfold gVar gVar2 gParts seq
 simp only[bnd_assoc,ret_bnd,cond_bnd]
 rfl
theorem partP {N:Nat} (hT:rdP 70 N (fun t n=>gG t n 0)) {w:World} {rb tb i:Nat} {cap:Cp} {t:Tk} (h:Rd w rb tb cap t i 0 0) (hN:t.len - i≤N):
 Calls Tryz.prog 192 #[.pointer (some ⟨rb,0,none⟩)] w (NodeP w rb tb cap t i True (fun n=>gPart (gG t n 0))):=by
 have hl:=h.l
 have hposI:(0:Int)≤(t.pos i:Int)∧(t.pos i:Int)≤7000:=by have:=h.good.posb i;omega
 go_enter Tryz.func192,Tryz.ntmps192
 have q:=Mf.start h
 go_wp2_with fail
 refine(q.ne' (sz w) (zeroC)).nd (fun hr=>hT hr hN) (fun w' p hk hw=>⟨rfl,.inr ((q.ne' (sz w) (zeroC)).thr hk (Wr.fst hw (fun _ _=>Sy.ret)))⟩) ?_
 clear q
 intro w1 x1 i1 y1 hl1 m1 q
 have F:=q.f1
 have hpb:=q.posb
 have HPE:Hid (hp y1=x1.p):=(flat_name q.fT.head).2
 go_wp2_with fail
 go_light
 refine Mf.rt ((q.ne' (sz w1) (x1.a)).l1 (sz w1+1) 5 x1.p 0 0 ⟨#[]⟩ hpb) Tryz.results192 1 (by rw[pf_of HPE.out];exact Ev.bnd' m1 Ev.ret') ?_
 simp[set11,World.setCell_alloc_past,F,Nat.lt_succ_of_lt]
theorem variantP {N:Nat} (hT:rdP 70 N (fun t n=>gG t n 0)) {w:World} {rb tb i:Nat} {cap:Cp} {t:Tk} (h:Rd w rb tb cap t i 0 0) (hN:t.len - i≤N+1):
 Calls Tryz.prog 139 #[.pointer (some ⟨rb,0,none⟩)] w (NodeP w rb tb cap t i True (fun n=>gVar t (gG t n 0) n)):=by
 have hl:=h.l
 have hposI:(0:Int)≤(t.pos i:Int)∧(t.pos i:Int)≤7000:=by have:=h.good.posb i;omega
 go_enter Tryz.func139,Tryz.ntmps139
 have q:=Mf.start h
 go_wp2_with fail
 refine(q.ne' (sz w) (zeroC)).lf (nodeP · 4) ?_
 clear q
 intro w1 q
 have F:=q.f1
 go_wp2_with fail
 refine(q.ne' (sz w1) (nk 4 (t.pos i) nl)).nm (nameP2 ·) (fun w' p hk hw=>⟨rfl,.inr ((q.ne' (sz w1) (nk 4 (t.pos i) nl)).thr hk (by simp only[gVar_is];unfold gVar2 gParts;exact wrt))⟩) ?_
 clear q F
 intro w2 s2 i2 hs2 hl2 m2 q
 have F:=q.f2
 go_wp2_with fail
 refine(q.p04 s2).et (skipP · _ (ask)) ?_
 clear q F
 intro w3 b3 i3 hE3 m3 q
 have F:=q.f2
 go_wp2_with fail
 ·have hb3:isB t i2 0 0 ⟨#[40]⟩=true:=hE3.is_.symm.trans ‹_›
  obtain rfl:=(hE3.yes ‹_›).1
  have HB3:=Hid_nx hb3
  clear hb3 hE3
  go_wp2_with fail
  refine q.lf (fun _=>someP _) ?_
  clear q F
  intro w4 q
  have F:=q.f2
  go_wp2_with fail
  refine q.li (fun hr=>listP hr (mm:=fun n=>gParts t (gG t n 0) n) (ask) (fun _=>ask) (fun _=>lit) ein192 parts_run.1 parts_run.2 (fun{w' j} hr' hj=>(by have h1:=hr'.lt;have h2:=q.go trivial;simpa using partP hT hr' (by omega)))) (fun w' p hk hw=>⟨rfl,.inr (q.thr hk (by have hb3:=HB3.out;simp only[gVar_is];unfold gVar2;exact wrt))⟩) ?_
  clear q F
  intro w5 ao5 cp5 vs5 i5 V5 hl5 m5 q
  have F:=q.f2
  have hl6:vs5.length≤6001:=by have:=hl5.out.2;have:=q.st.rd.lt;have:=h.good.few;omega
  go_wp2_with fail
  go_light
  exact Mf.rt ((q.p05 (.slice ao5 vs5.length cp5)).fo 4 (t.pos i) 0 0 s2 (by omega) hposI hs2) Tryz.results139 1 (by have hb3:=HB3.out;simp only[gVar_is];unfold gVar2;exact evt)
 ·have hb3:isB t i2 0 0 ⟨#[40]⟩=false:=hE3.is_.symm.trans ‹_›
  obtain rfl:i2=i3:=(hE3.no ‹_›).symm
  go_wp2_with fail
  go_light
  exact Mf.rt (q.lk 4 (t.pos i) 0 0 s2 hposI hs2) Tryz.results139 1 (by simp only[gVar_is];unfold gVar2;exact evt)
end Go.Proofs.YtdplogkmkgekdaaGreatDoor.Pj
namespace Go.Proofs.YtdplogkmkgekdaaGreatDoor.Pj
open Go.RowKit
theorem enumP {N:Nat} (hT:rdP 70 N (fun t n=>gG t n 0)) {w:World} {rb tb i:Nat} {cap:Cp} {t:Tk} (h:Rd w rb tb cap t i 0 0) (hN:t.len - i≤N+1) (hb:isB t i 0 0 ⟨#[101,110,117,109]⟩=true):
 Calls Tryz.prog 62 #[.pointer (some ⟨rb,0,none⟩)] w (NodeP w rb tb cap t i True (fun n=>seq (gAdd 1) (gEnum t (gG t n 0) (t.pos i) 0 n))):=by
 have hl:=h.l
 have hposI:(0:Int)≤(t.pos i:Int)∧(t.pos i:Int)≤7000:=by have:=h.good.posb i;omega
 have HB:=Hid_nx hb
 clear hb
 go_enter Tryz.func62,Tryz.ntmps62
 have q:=Mf.start h
 go_wp2_with fail
 refine(q.ne' (sz w) (zeroC)).lf (nodeP · 3) ?_
 clear q
 intro w1 q
 have F:=q.f1
 go_wp2_with fail
 refine(q.ne' (sz w1) (nk 3 (t.pos i) nl)).wy (mustP · _ (ask)) HB.out ?_
 clear q F
 intro w2 q
 have F:=q.f2
 go_wp2_with fail
 refine q.nm (nameP2 ·) (fun w' p hk hw=>⟨rfl,.inr (q.thr hk (by simp only[gEnum_is];unfold gEnum2 gLooseB gVar;exact wrt))⟩) ?_
 clear q F
 intro w3 s3 i3 hs3 hl3 m3 q
 have F:=q.f2
 have HTA4:Hid (∀p,Wr (fun n=>gGens t false n) ⟨i3,0,0⟩ p→Wr (fun n=>seq (gAdd 1) (gEnum t (gG t n 0) (t.pos i) 0 n)) ⟨i,0,0⟩ p):=fun p hw=>(by simp only[gEnum_is];unfold gEnum2 gLooseB gVar;exact wrt)
 go_upto_region 5 with fail
 go_cut [] (fun wx=>∃(i4:Nat) (y4:List Nr) (v:Value) (vs:List (List Value)),Ev (fun n=>gGens t false n) ⟨i3,0,0⟩ (y4,⟨i4,0,0⟩)∧Hid (vs.length=1)∧Mf w rb tb cap t i True wx i4 [(sz w1,nodeC 3 (t.pos i) 1 0 s3 v),(sz w,zeroC)] [] v vs [] [y4])
 case first=>
  go_wp2_with fail
  go_region_law (first|(refine q.as (sz w4) (by simp) ?_;clear q F;intro w5 ao4 cp4 q;have F:=q.f2)|(replace q:=((q.p04 s3).p02 1).drew;go_simp;refine q.nn (fun hr=>plainGensP hr) (fun w' p hk hw=>⟨rfl,.inr (q.thr hk (HTA4.out _ hw))⟩) ?_;clear q F;intro w4 x4 i4 y4 hl4 m4 q;have F:=q.f2))
  all_goals
   go_wp2_with fail
   go_meet
   exact⟨i4,y4,_,_,m4,(by simp:_=_),q.p05 (.slice ao4 (0+1) cp4)⟩
 case rest=>
  clear F q
  obtain⟨i4,y4,v,vs,m4,HV1,q⟩:=hcut
  obtain⟨w5,hw⟩:∃x,x=wc:=⟨_,rfl⟩
  subst hw
  obtain⟨ao4,cp4,rfl⟩:=q.shape
  have F:=q.f2
  go_wp2_with fail
  refine q.wn (mustP · _ (ask)) (fun w' hk hw=>⟨rfl,.inr (q.thr hk (by simp only[gEnum_is];unfold gEnum2 gLooseB gVar;exact wrt))⟩) ?_
  clear q F
  intro w6 m5 q
  have F:=q.f2
  have HTH6:Hid (∀p,Wr (fun n=>loop (gLooseB t (gVar t (gG t n 0) n) ⟨#[125]⟩) n []) ⟨i4+1,0,0⟩ p→Wr (fun n=>seq (gAdd 1) (gEnum t (gG t n 0) (t.pos i) 0 n)) ⟨i,0,0⟩ p):=fun p hw=>(by simp only[gEnum_is];unfold gEnum2;exact wrt)
  have HNN6:Hid (∀m,i4+1≤m→m<t.len→t.len - m≤N):=fun m h1 h2=>(by have:=q.go trivial;omega)
  go_wp2_with fail
  go_region_law (first|(refine q.aps hVx6 hKx6 (by have:=HV1.out;omega) (few_le h.good.few hlx6.out.2.1 q.st.rd.lt) ?_;clear q F hKx6;intro w9 ao6 cp6 q;have F:=q.f2)|(go_simp;refine q.lh (fun hr=>listP hr (mm:=fun n=>loop (gLooseB t (gVar t (gG t n 0) n) ⟨#[125]⟩) n []) (ask) (fun _=>ask) (fun _=>lit) ein139 (loose_run (fun n=>st_gVar (gG_st _ _ _))).1 (loose_run (fun n=>st_gVar (gG_st _ _ _))).2 (fun{w' j} hr' hj=>app0 (variantP hT hr' (Nat.le_succ_of_le (HNN6.out _ hj hr'.lt))))) (fun w' p hk hw=>⟨rfl,.inr (q.thr hk (HTH6.out _ hw))⟩) ?_;clear q F;intro w8 aox6 cpx6 vs6 i6 V6 hlx6 hVx6 hKx6 m6 q;have F:=q.f2)|(replace q:=q.drew;go_simp;refine q.lf (fun _=>looseP _) ?_;clear q F;intro w7 q;have F:=q.f2))
  all_goals
   go_wp2_with fail
   go_light
   exact Mf.rt ((q.p05 (.slice ao6 (vs.length+vs6.length) cp6)).fo 3 (t.pos i) 1 0 s3 (by have:=hlx6.out.2.1;have:=q.st.rd.lt;have:=h.good.few;have:=HV1.out;simp;omega) hposI hs3) Tryz.results62 1 (by simp only[gEnum_is];unfold gEnum2;exact evt)
end Go.Proofs.YtdplogkmkgekdaaGreatDoor.Pj
