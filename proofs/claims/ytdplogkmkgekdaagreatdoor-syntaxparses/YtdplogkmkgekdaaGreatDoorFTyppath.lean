/- A type: one way, counted. -/
import Derived.Test.YtdplogkmkgekdaaGreatDoorZParams
import Derived.Test.YtdplogkmkgekdaaGreatDoorFRefdn
set_option linter.all false
set_option maxRecDepth 100000
set_option maxHeartbeats 4000000
namespace Go.Proofs.YtdplogkmkgekdaaGreatDoor
open Go.RowKit
theorem refFdl {N:Nat} (hT:tyF 3 N) (hLi:noF 3 204 True 8 (fun x=>x=19) (fun t _=>gLife t)) {w:World} {rb tb cap i:Nat} {t:Tk} {k a:Int} (h:Rd w rb tb cap t i k a) (hlt:i+1<t.len) (HB:Hid (∀i' k' r',(k'=0→i<i')→r'<64→Bd N t i' k' r')) (hd:isB t i k 0 ⟨#[38,38]⟩=true) (hq:kindB t (i+1) k 0 4=true):Calls Tryz.prog 206 #[.pointer (some ⟨rb,0,none⟩)] w (NodeF 3 w rb tb cap t i k a True 8 tyK (fun n=>gRef t (gG t n 0))):=by
 have hl:=h.l
 have hpos:(t.pos i:Int)≤6000:=by have:=h.good.posb i;omega
 have hposI:(0:Int)≤(t.pos i:Int)∧(t.pos i:Int)≤7000:=by have:=h.good.posb i;omega
 have hposJ:(0:Int)≤(t.pos i:Int)+1∧(t.pos i:Int)+1≤7000:=by omega
 go_enter Tryz.func206,Tryz.ntmps206
 have hfd4:=fld46_4
 have hi:(i:Int)<(t.len:Int):=by have:=h.lt;omega
 have hfew:(t.len:Int)≤6001:=by have:=h.good.few;omega
 have q:=Mf.start (wt:=3) h
 go_wp2_with fail
 refine(q.ne' (sz w) (zeroC)).lf (node20 · 16) ?_
 clear q
 intro w1 q
 have F:=q.f1
 go_wp2_with fail
 refine(q.ne' (sz w1) (nk 16 (t.pos i) nl)).lf (node20 · 16) ?_
 clear q F
 intro w2 q
 have F:=q.f2
 go_wp2_with fail
 refine(q.ne' (sz w2) (nk 16 (↑(t.pos i)+1) nl)).lf (is41 · 0 (by decide) _) ?_
 clear q F
 intro w3 q
 have F:=q.f3
 have r1:=q.st.rd.r1
 have fr1:=q.st.rd.fz 1
 have lr:=q.st.rd.l
 go_wp2_with fail
 refine((q.goI (j':=i+1) hlt (Nat.lt_succ_self _)).ne' (sz w3) (zeroC)).lf (kind22 · 0 (by decide) 4) ?_
 clear q F r1 fr1 lr
 intro w4 q
 have F:=q.f4
 go_wp2_with fail
 refine(hLi q.st.rd).mono ?_
 rintro e w5 ⟨q5,p5,n5,m5,s5,ko5,kl5,kc5,i5,k5,a5,rfl,hx5,hn5,hc5,hz5,y5,hy5,ml5⟩
 have e5:=life_ev hy5 ml5
 have hnm5:=hn5.name
 replace q:=q.nxm hx5
 clear hx5 hn5 hc5 hz5
 replace F:=q.f4
 go_wp2_with fail
 refine(q.p04 s5).et (eat42 · _) ?_
 clear q F
 intro w6 b6 i6 hE6 m6 q
 have F:=q.f4
 go_wp2_with fail
 ·go_wp2_with fail
  replace q:=q.p02 1
  refine q.nd (hT · (q.bd HB.out (by decide))) ?_
  clear q F
  intro w7 x7 i7 k7 a7 y7 hc7 ok7 m7 q
  have F:=q.f4
  have g1_m:=Nat.lt_succ_of_lt (q.fa 0 rfl).2.2.1;have g2_m:_<(sz w7)+2:=Nat.lt_succ_of_lt g1_m;have g3_m:_<(sz w7)+3:=Nat.lt_succ_of_lt g2_m
  have g1_v:=Nat.lt_succ_of_lt (q.fa 1 rfl).2.2.1;have g2_v:_<(sz w7)+2:=Nat.lt_succ_of_lt g1_v;have g3_v:_<(sz w7)+3:=Nat.lt_succ_of_lt g2_v
  have g1_n:=Nat.lt_succ_of_lt (q.fa 2 rfl).2.2.1;have g2_n:_<(sz w7)+2:=Nat.lt_succ_of_lt g1_n;have g3_n:_<(sz w7)+3:=Nat.lt_succ_of_lt g2_n
  have g1_z:=Nat.lt_succ_of_lt (q.fa 3 rfl).2.2.1;have g2_z:_<(sz w7)+2:=Nat.lt_succ_of_lt g1_z;have g3_z:_<(sz w7)+3:=Nat.lt_succ_of_lt g2_z
  go_wp2_with fail
  go_light
  refine Mf.retb (C:=tyK) (d:=8) Tryz.results206 rfl rfl (((((((q.p14 s5).p12 1).p15 (sl ((sz w7)+1) 1)).p25 (sl ((sz w7)+2) 1)).ne' (sz w7) x7.a).l1 ((sz w7)+1) 16 (↑(t.pos i)+1) 1 0 s5 hposJ hnm5 (fun e=>Gr.of_ref ⟨.inr rfl,_,rfl,hc7 e⟩)).l1 ((sz w7)+2) 16 (t.pos i) 0 0 ⟨#[]⟩ hposI (by decide) (fun _=>Gr.of_ref ⟨.inl rfl,_,rfl,⟨by show(13:Int)≤16;decide,by show(16:Int)≤18;decide⟩⟩)) 4 rfl (fun _=>⟨by show(13:Int)≤16;decide,by show(16:Int)≤18;decide⟩) (by omega) ?_ (by unfold gRef;unfold gMut;exact evt)
  have l_m:=(q.fa 0 rfl).2.2.1
  have l_v:=(q.fa 1 rfl).2.2.1
  have l_n:=(q.fa 2 rfl).2.2.1
  have l_z:=(q.fa 3 rfl).2.2.1
  simp[set11,World.setCell_alloc_past,l_m,(Nat.lt_succ_of_lt l_m),(Nat.lt_succ_of_lt (Nat.lt_succ_of_lt l_m)),l_v,(Nat.lt_succ_of_lt l_v),(Nat.lt_succ_of_lt (Nat.lt_succ_of_lt l_v)),l_n,(Nat.lt_succ_of_lt l_n),(Nat.lt_succ_of_lt (Nat.lt_succ_of_lt l_n)),l_z,(Nat.lt_succ_of_lt l_z),(Nat.lt_succ_of_lt (Nat.lt_succ_of_lt l_z))]
 ·go_wp2_with fail
  refine q.nd (hT · (q.bd HB.out (by decide))) ?_
  clear q F
  intro w8 x8 i8 k8 a8 y8 hc8 ok8 m8 q
  have F:=q.f4
  have g1_m:=Nat.lt_succ_of_lt (q.fa 0 rfl).2.2.1;have g2_m:_<(sz w8)+2:=Nat.lt_succ_of_lt g1_m;have g3_m:_<(sz w8)+3:=Nat.lt_succ_of_lt g2_m
  have g1_v:=Nat.lt_succ_of_lt (q.fa 1 rfl).2.2.1;have g2_v:_<(sz w8)+2:=Nat.lt_succ_of_lt g1_v;have g3_v:_<(sz w8)+3:=Nat.lt_succ_of_lt g2_v
  have g1_n:=Nat.lt_succ_of_lt (q.fa 2 rfl).2.2.1;have g2_n:_<(sz w8)+2:=Nat.lt_succ_of_lt g1_n;have g3_n:_<(sz w8)+3:=Nat.lt_succ_of_lt g2_n
  have g1_z:=Nat.lt_succ_of_lt (q.fa 3 rfl).2.2.1;have g2_z:_<(sz w8)+2:=Nat.lt_succ_of_lt g1_z;have g3_z:_<(sz w8)+3:=Nat.lt_succ_of_lt g2_z
  go_wp2_with fail
  go_light
  refine Mf.retb (C:=tyK) (d:=8) Tryz.results206 rfl rfl (((((((q.p14 s5).p12 0).p15 (sl ((sz w8)+1) 1)).p25 (sl ((sz w8)+2) 1)).ne' (sz w8) x8.a).l1 ((sz w8)+1) 16 (↑(t.pos i)+1) 0 0 s5 hposJ hnm5 (fun e=>Gr.of_ref ⟨.inl rfl,_,rfl,hc8 e⟩)).l1 ((sz w8)+2) 16 (t.pos i) 0 0 ⟨#[]⟩ hposI (by decide) (fun _=>Gr.of_ref ⟨.inl rfl,_,rfl,⟨by show(13:Int)≤16;decide,by show(16:Int)≤18;decide⟩⟩)) 4 rfl (fun _=>⟨by show(13:Int)≤16;decide,by show(16:Int)≤18;decide⟩) (by omega) ?_ (by unfold gRef;unfold gMut;exact evt)
  have l_m:=(q.fa 0 rfl).2.2.1
  have l_v:=(q.fa 1 rfl).2.2.1
  have l_n:=(q.fa 2 rfl).2.2.1
  have l_z:=(q.fa 3 rfl).2.2.1
  simp[set11,World.setCell_alloc_past,l_m,(Nat.lt_succ_of_lt l_m),(Nat.lt_succ_of_lt (Nat.lt_succ_of_lt l_m)),l_v,(Nat.lt_succ_of_lt l_v),(Nat.lt_succ_of_lt (Nat.lt_succ_of_lt l_v)),l_n,(Nat.lt_succ_of_lt l_n),(Nat.lt_succ_of_lt (Nat.lt_succ_of_lt l_n)),l_z,(Nat.lt_succ_of_lt l_z),(Nat.lt_succ_of_lt (Nat.lt_succ_of_lt l_z))]
end Go.Proofs.YtdplogkmkgekdaaGreatDoor
namespace Go.Proofs.YtdplogkmkgekdaaGreatDoor
open Go.RowKit
theorem typF_int {N:Nat} {w:World} {rb tb cap i:Nat} {t:Tk} {k a:Int} (h:Rd w rb tb cap t i k a) (hN:Bd (N+1) t i k 3) (h1:isB t i k 0 ⟨#[105,110,116]⟩=true):Calls Tryz.prog 169 #[.pointer (some ⟨rb,0,none⟩)] w (NodeF 3 w rb tb cap t i k a True 8 tyK (fun n=>gTyp t (gG t n 0) n)):=by
 have hl:=h.l
 have HN:Hid (Bd (N+1) t i k 3):=hN
 clear hN
 have hposI:(0:Int)≤(t.pos i:Int)∧(t.pos i:Int)≤7000:=by have:=h.good.posb i;omega
 go_enter Tryz.func169,Tryz.ntmps169
 have hfd4:=fld46_4
 have hi:(i:Int)<(t.len:Int):=by have:=h.lt;omega
 have hfew:(t.len:Int)≤6001:=by have:=h.good.few;omega
 have q:=Mf.start (wt:=3) h
 go_wp2_with fail
 refine(q.ne' (sz w) (zeroC)).lf (node20 · 0) ?_
 clear q
 intro w1 q
 have F:=q.f1
 go_wp2_with fail
 refine(q.ne' (sz w1) (nk 0 (t.pos i) nl)).ey (eat_yes · _ h1) ?_
 clear q F
 intro w2 q
 have F:=q.f2
 go_wp2_with fail
 go_light
 exact Mf.retb (C:=tyK) (d:=8) Tryz.results169 rfl rfl ((q.p00 13).lk 13 (t.pos i) 0 0 ⟨#[]⟩ hposI (by decide) (fun _=>Gr.free (by unfold frK;decide))) 1 rfl (fun _=>⟨by show(13:Int)≤13;decide,by show(13:Int)≤18;decide⟩) (by omega) rfl (by unfold gTyp;exact evt)
end Go.Proofs.YtdplogkmkgekdaaGreatDoor
namespace Go.Proofs.YtdplogkmkgekdaaGreatDoor
open Go.RowKit
theorem typF_bool {N:Nat} {w:World} {rb tb cap i:Nat} {t:Tk} {k a:Int} (h:Rd w rb tb cap t i k a) (hN:Bd (N+1) t i k 3) (h1:isB t i k 0 ⟨#[105,110,116]⟩=false) (h2:isB t i k 0 ⟨#[98,111,111,108]⟩=true):Calls Tryz.prog 169 #[.pointer (some ⟨rb,0,none⟩)] w (NodeF 3 w rb tb cap t i k a True 8 tyK (fun n=>gTyp t (gG t n 0) n)):=by
 have hl:=h.l
 have HN:Hid (Bd (N+1) t i k 3):=hN
 clear hN
 have hposI:(0:Int)≤(t.pos i:Int)∧(t.pos i:Int)≤7000:=by have:=h.good.posb i;omega
 go_enter Tryz.func169,Tryz.ntmps169
 have hfd4:=fld46_4
 have hi:(i:Int)<(t.len:Int):=by have:=h.lt;omega
 have hfew:(t.len:Int)≤6001:=by have:=h.good.few;omega
 have q:=Mf.start (wt:=3) h
 go_wp2_with fail
 refine(q.ne' (sz w) (zeroC)).lf (node20 · 0) ?_
 clear q
 intro w1 q
 have F:=q.f1
 go_wp2_with fail
 refine(q.ne' (sz w1) (nk 0 (t.pos i) nl)).lf (eat_no · _ h1) ?_
 clear q F
 intro w2 q
 have F:=q.f2
 go_wp2_with fail
 refine q.ey (eat_yes · _ h2) ?_
 clear q F
 intro w3 q
 have F:=q.f2
 go_wp2_with fail
 go_light
 exact Mf.retb (C:=tyK) (d:=8) Tryz.results169 rfl rfl ((q.p00 14).lk 14 (t.pos i) 0 0 ⟨#[]⟩ hposI (by decide) (fun _=>Gr.free (by unfold frK;decide))) 1 rfl (fun _=>⟨by show(13:Int)≤14;decide,by show(14:Int)≤18;decide⟩) (by omega) rfl (by unfold gTyp;exact evt)
end Go.Proofs.YtdplogkmkgekdaaGreatDoor
namespace Go.Proofs.YtdplogkmkgekdaaGreatDoor
open Go.RowKit
theorem typF_tup {N:Nat} (hTs:tysF 3 N) {w:World} {rb tb cap i:Nat} {t:Tk} {k a:Int} (h:Rd w rb tb cap t i k a) (hN:Bd (N+1) t i k 3) (h1:isB t i k 0 ⟨#[105,110,116]⟩=false) (h2:isB t i k 0 ⟨#[98,111,111,108]⟩=false) (h3:isB t i k 0 ⟨#[40]⟩=true):Calls Tryz.prog 169 #[.pointer (some ⟨rb,0,none⟩)] w (NodeF 3 w rb tb cap t i k a True 8 tyK (fun n=>gTyp t (gG t n 0) n)):=by
 have hl:=h.l
 have HN:Hid (Bd (N+1) t i k 3):=hN
 clear hN
 have hposI:(0:Int)≤(t.pos i:Int)∧(t.pos i:Int)≤7000:=by have:=h.good.posb i;omega
 go_enter Tryz.func169,Tryz.ntmps169
 have hfd4:=fld46_4
 have hi:(i:Int)<(t.len:Int):=by have:=h.lt;omega
 have hfew:(t.len:Int)≤6001:=by have:=h.good.few;omega
 have q:=Mf.start (wt:=3) h
 go_wp2_with fail
 refine(q.ne' (sz w) (zeroC)).lf (node20 · 0) ?_
 clear q
 intro w1 q
 have F:=q.f1
 go_wp2_with fail
 refine(q.ne' (sz w1) (nk 0 (t.pos i) nl)).lf (eat_no · _ h1) ?_
 clear q F
 intro w2 q
 have F:=q.f2
 go_wp2_with fail
 refine q.lf (eat_no · _ h2) ?_
 clear q F
 intro w3 q
 have F:=q.f2
 go_wp2_with fail
 refine q.ey (eat_yes · _ h3) ?_
 clear q F
 intro w4 q
 have F:=q.f2
 go_wp2_with fail
 replace q:=q.p00 15
 refine q.li (hTs · (q.bd (HN.out.any2 (isB_lt h.good h.lt h3).1 h.lt) (by decide)) _) ?_
 clear q F
 intro w5 ao5 cp5 vs5 i5 k5 a5 V5 hl5 hP5 ok5 m5 q
 have F:=q.f2
 by_cases hlen:vs5.length=1
 ·obtain⟨gb,rfl,hgl,hgr,hgn,q6,p6,n6,m6,s6,ko6,kl6,kc6,rfl,hcell⟩:=q.first hlen
  obtain⟨y5,rfl⟩:=q.one rfl
  obtain⟨gn1,gn2⟩:=q.notin hgn 0 rfl
  obtain⟨gz1,gz2⟩:=q.notin hgn 1 rfl
  go_wp2_with fail
  go_light
  exact Mf.retb (C:=tyK) (d:=8) Tryz.results169 rfl rfl (q.p05 (.slice (some ⟨gb,0,none⟩) 1 cp5)).toT 1 rfl (fun e=>hP5 e _ (by simp)) (by omega) rfl (by unfold gTyp;exact evt)
 ·have hlen':((vs5.length:Int)==1)=false:=by simp;omega
  have hV5:V5.length≠1:=by rw[q.fv.len];exact hlen
  go_wp2_with fail
  go_light
  exact Mf.retb (C:=tyK) (d:=8) Tryz.results169 rfl rfl ((q.p05 (.slice ao5 vs5.length cp5)).fk 15 (t.pos i) (Nat.le_trans hl5 (by decide)) hposI (fun e=>Gr.of_tuple (hP5 e))) 1 rfl (fun _=>⟨by show(13:Int)≤15;decide,by show(15:Int)≤18;decide⟩) (by omega) rfl (by unfold gTyp;exact evt)
end Go.Proofs.YtdplogkmkgekdaaGreatDoor
namespace Go.Proofs.YtdplogkmkgekdaaGreatDoor
open Go.RowKit
theorem typF_ref {N:Nat} (hR:refF 3 N) {w:World} {rb tb cap i:Nat} {t:Tk} {k a:Int} (h:Rd w rb tb cap t i k a) (hN:Bd (N+1) t i k 3) (h1:isB t i k 0 ⟨#[105,110,116]⟩=false) (h2:isB t i k 0 ⟨#[98,111,111,108]⟩=false) (h3:isB t i k 0 ⟨#[40]⟩=false) (h4:isB t i k 0 ⟨#[38]⟩=true):Calls Tryz.prog 169 #[.pointer (some ⟨rb,0,none⟩)] w (NodeF 3 w rb tb cap t i k a True 8 tyK (fun n=>gTyp t (gG t n 0) n)):=by
 have hl:=h.l
 have HN:Hid (Bd (N+1) t i k 3):=hN
 clear hN
 have hposI:(0:Int)≤(t.pos i:Int)∧(t.pos i:Int)≤7000:=by have:=h.good.posb i;omega
 go_enter Tryz.func169,Tryz.ntmps169
 have hfd4:=fld46_4
 have hi:(i:Int)<(t.len:Int):=by have:=h.lt;omega
 have hfew:(t.len:Int)≤6001:=by have:=h.good.few;omega
 have q:=Mf.start (wt:=3) h
 go_wp2_with fail
 refine(q.ne' (sz w) (zeroC)).lf (node20 · 0) ?_
 clear q
 intro w1 q
 have F:=q.f1
 go_wp2_with fail
 refine(q.ne' (sz w1) (nk 0 (t.pos i) nl)).lf (eat_no · _ h1) ?_
 clear q F
 intro w2 q
 have F:=q.f2
 go_wp2_with fail
 refine q.lf (eat_no · _ h2) ?_
 clear q F
 intro w3 q
 have F:=q.f2
 go_wp2_with fail
 refine q.lf (eat_no · _ h3) ?_
 clear q F
 intro w4 q
 have F:=q.f2
 go_wp2_with fail
 refine q.lf (is41 · 0 (by decide) _) ?_
 clear q F
 intro w5 q
 have F:=q.f2
 go_wp2_with fail
 refine q.nd (hR · (isB_lt h.good h.lt h4).1 (isB_lt h.good h.lt h4).2 (HN.out.down q.le q.ok (by decide))) ?_
 clear q F
 intro w6 x6 i6 k6 a6 y6 hc6 ok6 m6 q
 have F:=q.f2
 go_wp2_with fail
 go_light
 exact Mf.retb (C:=tyK) (d:=8) Tryz.results169 rfl rfl q 1 rfl hc6 (by omega) rfl (by unfold gTyp;exact evt)
end Go.Proofs.YtdplogkmkgekdaaGreatDoor
namespace Go.Proofs.YtdplogkmkgekdaaGreatDoor
open Go.RowKit
theorem typF_ref2 {N:Nat} (hR:refF 3 N) {w:World} {rb tb cap i:Nat} {t:Tk} {k a:Int} (h:Rd w rb tb cap t i k a) (hN:Bd (N+1) t i k 3) (h1:isB t i k 0 ⟨#[105,110,116]⟩=false) (h2:isB t i k 0 ⟨#[98,111,111,108]⟩=false) (h3:isB t i k 0 ⟨#[40]⟩=false) (h4:isB t i k 0 ⟨#[38]⟩=false) (h5:isB t i k 0 ⟨#[38,38]⟩=true):Calls Tryz.prog 169 #[.pointer (some ⟨rb,0,none⟩)] w (NodeF 3 w rb tb cap t i k a True 8 tyK (fun n=>gTyp t (gG t n 0) n)):=by
 have hl:=h.l
 have HN:Hid (Bd (N+1) t i k 3):=hN
 clear hN
 have hposI:(0:Int)≤(t.pos i:Int)∧(t.pos i:Int)≤7000:=by have:=h.good.posb i;omega
 go_enter Tryz.func169,Tryz.ntmps169
 have hfd4:=fld46_4
 have hi:(i:Int)<(t.len:Int):=by have:=h.lt;omega
 have hfew:(t.len:Int)≤6001:=by have:=h.good.few;omega
 have q:=Mf.start (wt:=3) h
 go_wp2_with fail
 refine(q.ne' (sz w) (zeroC)).lf (node20 · 0) ?_
 clear q
 intro w1 q
 have F:=q.f1
 go_wp2_with fail
 refine(q.ne' (sz w1) (nk 0 (t.pos i) nl)).lf (eat_no · _ h1) ?_
 clear q F
 intro w2 q
 have F:=q.f2
 go_wp2_with fail
 refine q.lf (eat_no · _ h2) ?_
 clear q F
 intro w3 q
 have F:=q.f2
 go_wp2_with fail
 refine q.lf (eat_no · _ h3) ?_
 clear q F
 intro w4 q
 have F:=q.f2
 go_wp2_with fail
 refine q.lf (is41 · 0 (by decide) _) ?_
 clear q F
 intro w5 q
 have F:=q.f2
 go_wp2_with fail
 refine q.lf (is41 · 0 (by decide) _) ?_
 clear q F
 intro w6 q
 have F:=q.f2
 go_wp2_with fail
 refine q.nd (hR · (isB_lt h.good h.lt h5).1 (isB_lt h.good h.lt h5).2 (HN.out.down q.le q.ok (by decide))) ?_
 clear q F
 intro w7 x7 i7 k7 a7 y7 hc7 ok7 m7 q
 have F:=q.f2
 go_wp2_with fail
 go_light
 exact Mf.retb (C:=tyK) (d:=8) Tryz.results169 rfl rfl q 1 rfl hc7 (by omega) rfl (by unfold gTyp;exact evt)
end Go.Proofs.YtdplogkmkgekdaaGreatDoor
namespace Go.Proofs.YtdplogkmkgekdaaGreatDoor
open Go.RowKit
theorem typF_fn {N:Nat} (hTs:tysF 3 N) (hT:tyF 3 N) (hLi:noF 3 204 True 8 (fun x=>x=19) (fun t _=>gLife t)) {w:World} {rb tb cap i:Nat} {t:Tk} {k a:Int} (h:Rd w rb tb cap t i k a) (hN:Bd (N+1) t i k 3) (h1:isB t i k 0 ⟨#[105,110,116]⟩=false) (h2:isB t i k 0 ⟨#[98,111,111,108]⟩=false) (h3:isB t i k 0 ⟨#[40]⟩=false) (h4:isB t i k 0 ⟨#[38]⟩=false) (h5:isB t i k 0 ⟨#[38,38]⟩=false) (h6:isB t i k 0 ⟨#[102,110]⟩=true) (h7:kindB t (i+1) k 0 4=false):Calls Tryz.prog 169 #[.pointer (some ⟨rb,0,none⟩)] w (NodeF 3 w rb tb cap t i k a True 8 tyK (fun n=>gTyp t (gG t n 0) n)):=by
 have hl:=h.l
 have HN:Hid (Bd (N+1) t i k 3):=hN
 clear hN
 have hposI:(0:Int)≤(t.pos i:Int)∧(t.pos i:Int)≤7000:=by have:=h.good.posb i;omega
 go_enter Tryz.func169,Tryz.ntmps169
 have hfd4:=fld46_4
 have hi:(i:Int)<(t.len:Int):=by have:=h.lt;omega
 have hfew:(t.len:Int)≤6001:=by have:=h.good.few;omega
 have q:=Mf.start (wt:=3) h
 go_wp2_with fail
 refine(q.ne' (sz w) (zeroC)).lf (node20 · 0) ?_
 clear q
 intro w1 q
 have F:=q.f1
 go_wp2_with fail
 refine(q.ne' (sz w1) (nk 0 (t.pos i) nl)).lf (eat_no · _ h1) ?_
 clear q F
 intro w2 q
 have F:=q.f2
 go_wp2_with fail
 refine q.lf (eat_no · _ h2) ?_
 clear q F
 intro w3 q
 have F:=q.f2
 go_wp2_with fail
 refine q.lf (eat_no · _ h3) ?_
 clear q F
 intro w4 q
 have F:=q.f2
 go_wp2_with fail
 refine q.lf (is41 · 0 (by decide) _) ?_
 clear q F
 intro w5 q
 have F:=q.f2
 go_wp2_with fail
 refine q.lf (is41 · 0 (by decide) _) ?_
 clear q F
 intro w6 q
 have F:=q.f2
 go_wp2_with fail
 refine q.ey (eat_yes · _ h6) ?_
 clear q F
 intro w7 q
 have F:=q.f2
 go_wp2_with fail
 refine(q.p00 17).lf (kind22 · 0 (by decide) 4) ?_
 clear q F
 intro w8 q
 have F:=q.f2
 have HB:Hid (∀i' k' r',(k'=0→i<i')→r'<64→Bd N t i' k' r'):=HN.out.any2 (isB_lt h.good h.lt h6).1 h.lt
 go_wp2_with fail
 refine q.et (eat42 · _) ?_
 clear q F
 intro w9 b9 i9 hE9 m9 q
 have F:=q.f2
 go_upto_if 47 with fail
 go_cut [] (fun wx=>∃(NN:Int) (j10:Nat) (k10 a10:Int),(Ev (fun _=>gMutOnce t) ⟨i+1,k,a⟩ (NN,⟨j10,k10,a10⟩)∧Mf 3 w rb tb cap t i k True (-16) wx j10 k10 a10 [(sz w1,nodeC 17 (t.pos i) NN 0 ⟨#[]⟩ nl),(sz w,zeroC)] [] nl [] [] []))
 case first=>
  go_wp2_with fail
  ·go_wp2_with fail
   go_meet
   exact⟨1,i9,k,a,(by unfold gMutOnce;exact evt),((q.p02 1).less (by omega))⟩
  ·go_wp2_with fail
   refine q.et (eat42 · _) ?_
   clear q F
   intro w11 b11 i11 hE11 m11 q
   have F:=q.f2
   go_wp2_with fail
   ·go_wp2_with fail
    go_meet
    exact⟨2,i11,k,a,(by unfold gMutOnce;exact evt),((q.p02 2).less (by omega))⟩
   ·go_wp2_with fail
    go_meet
    exact⟨0,i11,k,a,(by unfold gMutOnce;exact evt),(q.less (by omega))⟩
 case rest=>
  clear F q
  obtain⟨NN,j10,k10,a10,mm,q⟩:=hcut
  obtain⟨w12,hw⟩:∃x,x=wc:=⟨_,rfl⟩
  subst hw
  have F:=q.f2
  go_wp2_with fail
  refine q.wn (want39F · _) ?_
  clear q F
  intro w13 i13 k13 a13 ok13 m13 q
  have F:=q.f2
  go_wp2_with fail
  refine q.li (hTs · (q.bd HB.out (by decide)) _) ?_
  clear q F
  intro w14 ao14 cp14 vs14 i14 k14 a14 V14 hl14 hP14 ok14 m14 q
  have F:=q.f2
  go_wp2_with fail
  refine(q.p05 (.slice ao14 vs14.length cp14)).wn (want39F · _) ?_
  clear q F
  intro w15 i15 k15 a15 ok15 m15 q
  have F:=q.f2
  go_wp2_with fail
  go_region_law (first|(refine q.as (sz w16) (Nat.le_trans hl14 (by decide)) ?_;clear q F;intro w17 ao17 cp17 q;have F:=q.f2)|(replace q:=q.drew;go_simp;refine q.nd (hT · (q.bd HB.out (by decide))) ?_;clear q F;intro w16 x16 i16 k16 a16 y16 hc16 ok16 m16 q;have F:=q.f2))
  all_goals
   go_wp2_with fail
   go_light
   exact Mf.retb (C:=tyK) (d:=8) Tryz.results169 rfl rfl ((q.p05 (.slice ao17 (vs14.length+1) cp17)).fo 17 (t.pos i) NN 0 ⟨#[]⟩ (by have:=hl14;simp;omega) hposI (by decide) (fun e=>Gr.of_fnt ⟨by simp,by rw[List.map_append];exact all_snoc (hP14 (ok15.out (ok16.out e))) (hc16 e)⟩)) 1 rfl (fun _=>⟨by show(13:Int)≤17;decide,by show(17:Int)≤18;decide⟩) (by omega) rfl (by unfold gTyp;exact evt)
end Go.Proofs.YtdplogkmkgekdaaGreatDoor
namespace Go.Proofs.YtdplogkmkgekdaaGreatDoor
open Go.RowKit
theorem typF_fnL {N:Nat} (hTs:tysF 3 N) (hT:tyF 3 N) (hLi:noF 3 204 True 8 (fun x=>x=19) (fun t _=>gLife t)) {w:World} {rb tb cap i:Nat} {t:Tk} {k a:Int} (h:Rd w rb tb cap t i k a) (hN:Bd (N+1) t i k 3) (h1:isB t i k 0 ⟨#[105,110,116]⟩=false) (h2:isB t i k 0 ⟨#[98,111,111,108]⟩=false) (h3:isB t i k 0 ⟨#[40]⟩=false) (h4:isB t i k 0 ⟨#[38]⟩=false) (h5:isB t i k 0 ⟨#[38,38]⟩=false) (h6:isB t i k 0 ⟨#[102,110]⟩=true) (h7:kindB t (i+1) k 0 4=true):Calls Tryz.prog 169 #[.pointer (some ⟨rb,0,none⟩)] w (NodeF 3 w rb tb cap t i k a True 8 tyK (fun n=>gTyp t (gG t n 0) n)):=by
 have hl:=h.l
 have HN:Hid (Bd (N+1) t i k 3):=hN
 clear hN
 have hposI:(0:Int)≤(t.pos i:Int)∧(t.pos i:Int)≤7000:=by have:=h.good.posb i;omega
 go_enter Tryz.func169,Tryz.ntmps169
 have hfd4:=fld46_4
 have hi:(i:Int)<(t.len:Int):=by have:=h.lt;omega
 have hfew:(t.len:Int)≤6001:=by have:=h.good.few;omega
 have q:=Mf.start (wt:=3) h
 go_wp2_with fail
 refine(q.ne' (sz w) (zeroC)).lf (node20 · 0) ?_
 clear q
 intro w1 q
 have F:=q.f1
 go_wp2_with fail
 refine(q.ne' (sz w1) (nk 0 (t.pos i) nl)).lf (eat_no · _ h1) ?_
 clear q F
 intro w2 q
 have F:=q.f2
 go_wp2_with fail
 refine q.lf (eat_no · _ h2) ?_
 clear q F
 intro w3 q
 have F:=q.f2
 go_wp2_with fail
 refine q.lf (eat_no · _ h3) ?_
 clear q F
 intro w4 q
 have F:=q.f2
 go_wp2_with fail
 refine q.lf (is41 · 0 (by decide) _) ?_
 clear q F
 intro w5 q
 have F:=q.f2
 go_wp2_with fail
 refine q.lf (is41 · 0 (by decide) _) ?_
 clear q F
 intro w6 q
 have F:=q.f2
 go_wp2_with fail
 refine q.ey (eat_yes · _ h6) ?_
 clear q F
 intro w7 q
 have F:=q.f2
 go_wp2_with fail
 refine(q.p00 17).lf (kind22 · 0 (by decide) 4) ?_
 clear q F
 intro w8 q
 have F:=q.f2
 have HB:Hid (∀i' k' r',(k'=0→i<i')→r'<64→Bd N t i' k' r'):=HN.out.any2 (isB_lt h.good h.lt h6).1 h.lt
 go_wp2_with fail
 refine(hLi q.st.rd).mono ?_
 rintro e w9 ⟨q9,p9,n9,m9,s9,ko9,kl9,kc9,i9,k9,a9,rfl,hx9,hn9,hc9,hz9,y9,hy9,ml9⟩
 have e9:=life_ev hy9 ml9
 have hnm9:=hn9.name
 have ok9:Hid (k9=0→k=0):=hx9.ok
 replace q:=q.nxm hx9
 clear hx9 hn9 hc9 hz9
 replace F:=q.f2
 go_wp2_with fail
 refine(q.p04 s9).et (eat42 · _) ?_
 clear q F
 intro w10 b10 i10 hE10 m10 q
 have F:=q.f2
 go_upto_if 47 with fail
 go_cut [] (fun wx=>∃(NN:Int) (j11:Nat) (k11 a11:Int),(Ev (fun _=>gMutOnce t) ⟨i9,k9,a9⟩ (NN,⟨j11,k11,a11⟩)∧Mf 3 w rb tb cap t i k True (-32) wx j11 k11 a11 [(sz w1,nodeC 17 (t.pos i) NN 0 s9 nl),(sz w,zeroC)] [] nl [] [] []))
 case first=>
  go_wp2_with fail
  ·go_wp2_with fail
   go_meet
   exact⟨1,i10,k9,a9,(by unfold gMutOnce;exact evt),((q.p02 1).less (by omega))⟩
  ·go_wp2_with fail
   refine q.et (eat42 · _) ?_
   clear q F
   intro w12 b12 i12 hE12 m12 q
   have F:=q.f2
   go_wp2_with fail
   ·go_wp2_with fail
    go_meet
    exact⟨2,i12,k9,a9,(by unfold gMutOnce;exact evt),((q.p02 2).less (by omega))⟩
   ·go_wp2_with fail
    go_meet
    exact⟨0,i12,k9,a9,(by unfold gMutOnce;exact evt),(q.less (by omega))⟩
 case rest=>
  clear F q
  obtain⟨NN,j11,k11,a11,mm,q⟩:=hcut
  obtain⟨w13,hw⟩:∃x,x=wc:=⟨_,rfl⟩
  subst hw
  have F:=q.f2
  go_wp2_with fail
  refine q.wn (want39F · _) ?_
  clear q F
  intro w14 i14 k14 a14 ok14 m14 q
  have F:=q.f2
  go_wp2_with fail
  refine q.li (hTs · (q.bd HB.out (by decide)) _) ?_
  clear q F
  intro w15 ao15 cp15 vs15 i15 k15 a15 V15 hl15 hP15 ok15 m15 q
  have F:=q.f2
  go_wp2_with fail
  refine(q.p05 (.slice ao15 vs15.length cp15)).wn (want39F · _) ?_
  clear q F
  intro w16 i16 k16 a16 ok16 m16 q
  have F:=q.f2
  go_wp2_with fail
  go_region_law (first|(refine q.as (sz w17) (Nat.le_trans hl15 (by decide)) ?_;clear q F;intro w18 ao18 cp18 q;have F:=q.f2)|(replace q:=q.drew;go_simp;refine q.nd (hT · (q.bd HB.out (by decide))) ?_;clear q F;intro w17 x17 i17 k17 a17 y17 hc17 ok17 m17 q;have F:=q.f2))
  all_goals
   go_wp2_with fail
   go_light
   exact Mf.retb (C:=tyK) (d:=8) Tryz.results169 rfl rfl ((q.p05 (.slice ao18 (vs15.length+1) cp18)).fo 17 (t.pos i) NN 0 s9 (by have:=hl15;simp;omega) hposI hnm9 (fun e=>Gr.of_fnt ⟨by simp,by rw[List.map_append];exact all_snoc (hP15 (ok16.out (ok17.out e))) (hc17 e)⟩)) 1 rfl (fun _=>⟨by show(13:Int)≤17;decide,by show(17:Int)≤18;decide⟩) (by omega) rfl (by unfold gTyp;exact evt)
end Go.Proofs.YtdplogkmkgekdaaGreatDoor
namespace Go.Proofs.YtdplogkmkgekdaaGreatDoor
open Go.RowKit
theorem typF_path {N:Nat} (hA:argsF 3 N) {w:World} {rb tb cap i:Nat} {t:Tk} {k a:Int} (h:Rd w rb tb cap t i k a) (hN:Bd (N+1) t i k 3) (h1:isB t i k 0 ⟨#[105,110,116]⟩=false) (h2:isB t i k 0 ⟨#[98,111,111,108]⟩=false) (h3:isB t i k 0 ⟨#[40]⟩=false) (h4:isB t i k 0 ⟨#[38]⟩=false) (h5:isB t i k 0 ⟨#[38,38]⟩=false) (h6:isB t i k 0 ⟨#[102,110]⟩=false):Calls Tryz.prog 169 #[.pointer (some ⟨rb,0,none⟩)] w (NodeF 3 w rb tb cap t i k a True 8 tyK (fun n=>gTyp t (gG t n 0) n)):=by
 have hl:=h.l
 have HN:Hid (Bd (N+1) t i k 3):=hN
 clear hN
 have hposI:(0:Int)≤(t.pos i:Int)∧(t.pos i:Int)≤7000:=by have:=h.good.posb i;omega
 go_enter Tryz.func169,Tryz.ntmps169
 have hfd4:=fld46_4
 have hi:(i:Int)<(t.len:Int):=by have:=h.lt;omega
 have hfew:(t.len:Int)≤6001:=by have:=h.good.few;omega
 have q:=Mf.start (wt:=3) h
 go_wp2_with fail
 refine(q.ne' (sz w) (zeroC)).lf (node20 · 0) ?_
 clear q
 intro w1 q
 have F:=q.f1
 go_wp2_with fail
 refine(q.ne' (sz w1) (nk 0 (t.pos i) nl)).lf (eat_no · _ h1) ?_
 clear q F
 intro w2 q
 have F:=q.f2
 go_wp2_with fail
 refine q.lf (eat_no · _ h2) ?_
 clear q F
 intro w3 q
 have F:=q.f2
 go_wp2_with fail
 refine q.lf (eat_no · _ h3) ?_
 clear q F
 intro w4 q
 have F:=q.f2
 go_wp2_with fail
 refine q.lf (is41 · 0 (by decide) _) ?_
 clear q F
 intro w5 q
 have F:=q.f2
 go_wp2_with fail
 refine q.lf (is41 · 0 (by decide) _) ?_
 clear q F
 intro w6 q
 have F:=q.f2
 go_wp2_with fail
 refine q.lf (eat_no · _ h6) ?_
 clear q F
 intro w7 q
 have F:=q.f2
 go_wp2_with fail
 refine(q.p00 18).nm (path80F · 2 (by decide) (by decide)) ?_
 clear q F
 intro w8 s8 i8 k8 a8 hs8 ho8 ok8 m8 q
 have F:=q.f2
 go_wp2_with fail
 refine(q.p04 s8).et (eat42 · _) ?_
 clear q F
 intro w9 b9 i9 hE9 m9 q
 have F:=q.f2
 go_wp2_with fail
 ·have HB:Hid (∀i' k' r',(k'=0→i<i')→r'<64→Bd N t i' k' r'):=HN.out.any2 (q.ok (hE9.yes ‹_›).2) h.lt
  go_wp2_with fail
  refine q.li (hA · (q.bd HB.out (by decide))) ?_
  clear q F
  intro w10 ao10 cp10 vs10 i10 k10 a10 V10 hl10 hP10 ok10 m10 q
  have F:=q.f2
  go_wp2_with fail
  go_light
  exact Mf.retb (C:=tyK) (d:=8) Tryz.results169 rfl rfl ((q.p05 (.slice ao10 vs10.length cp10)).fo 18 (t.pos i) 0 0 s8 (Nat.le_trans hl10 (by decide)) hposI hs8 (fun e=>Gr.of_path ⟨ho8 (ok10.out e),hP10 e⟩)) 1 rfl (fun _=>⟨by show(13:Int)≤18;decide,by show(18:Int)≤18;decide⟩) (by omega) rfl (by unfold gTyp;exact evt)
 ·go_wp2_with fail
  go_light
  exact Mf.retb (C:=tyK) (d:=8) Tryz.results169 rfl rfl (q.lk 18 (t.pos i) 0 0 s8 hposI hs8 (fun e=>Gr.of_path ⟨ho8 e,[],[],rfl,(fun _ hx=>by cases hx),(fun _ hx=>by cases hx)⟩)) 1 rfl (fun _=>⟨by show(13:Int)≤18;decide,by show(18:Int)≤18;decide⟩) (by omega) rfl (by unfold gTyp;exact evt)
end Go.Proofs.YtdplogkmkgekdaaGreatDoor
