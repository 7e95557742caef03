/- What a closure captures, counted. -/
import Derived.Test.YtdplogkmkgekdaaGreatDoorFRefdn
import Derived.Test.YtdplogkmkgekdaaGreatDoorZParams
set_option linter.all false
set_option maxRecDepth 100000
set_option maxHeartbeats 4000000
namespace Go.Proofs.YtdplogkmkgekdaaGreatDoor
open Go.RowKit
theorem patternF_0 {N:Nat} (hPs:exsF 258 4 N (fun t n=>gList t (gG t n 5) ⟨#[41]⟩ n)) {w:World} {rb tb cap i:Nat} {t:Tk} {k a:Int} (h:Rd w rb tb cap t i k a) (hN:Bd (N+1) t i k 3) (h0:isB t i k 0 ⟨#[95]⟩=true):Calls Tryz.prog 242 #[.pointer (some ⟨rb,0,none⟩)] w (NodeF 1 w rb tb cap t i k a True 8 noK (fun n=>gPattern t (gG t n 5) n)):=by
 have hl:=h.l
 have HN:Hid (Bd (N+1) t i k 3):=hN
 clear hN
 have hposI:(0:Int)≤(t.pos i:Int)∧(t.pos i:Int)≤7000:=by have:=h.good.posb i;omega
 go_enter Tryz.func242,Tryz.ntmps242
 have hi:(i:Int)<(t.len:Int):=by have:=h.lt;omega
 have hfew:(t.len:Int)≤6001:=by have:=h.good.few;omega
 have hfd:=fld103_3
 have q:=Mf.start (wt:=1) h
 go_wp2_with fail
 refine(q.ne' (sz w) (zeroC)).lf (node20 · 0) ?_
 clear q
 intro w1 q
 have F:=q.f1
 go_wp2_with fail
 refine(q.ne' (sz w1) (nk 0 (t.pos i) nl)).ey (eat_yes · _ h0) ?_
 clear q F
 intro w2 q
 have F:=q.f2
 go_wp2_with fail
 go_light
 exact((q.p00 49).lk 49 (t.pos i) 0 0 ⟨#[]⟩ hposI).rt Tryz.results242 1 (by unfold gPattern;exact evt)
theorem patternF_1 {N:Nat} (hPs:exsF 258 4 N (fun t n=>gList t (gG t n 5) ⟨#[41]⟩ n)) {w:World} {rb tb cap i:Nat} {t:Tk} {k a:Int} (h:Rd w rb tb cap t i k a) (hN:Bd (N+1) t i k 3) (h0:isB t i k 0 ⟨#[95]⟩=false) (h1:isB t i k 0 ⟨#[45]⟩=true):Calls Tryz.prog 242 #[.pointer (some ⟨rb,0,none⟩)] w (NodeF 1 w rb tb cap t i k a True 8 noK (fun n=>gPattern t (gG t n 5) n)):=by
 have hl:=h.l
 have HN:Hid (Bd (N+1) t i k 3):=hN
 clear hN
 have hposI:(0:Int)≤(t.pos i:Int)∧(t.pos i:Int)≤7000:=by have:=h.good.posb i;omega
 go_enter Tryz.func242,Tryz.ntmps242
 have hi:(i:Int)<(t.len:Int):=by have:=h.lt;omega
 have hfew:(t.len:Int)≤6001:=by have:=h.good.few;omega
 have hfd:=fld103_3
 have q:=Mf.start (wt:=1) h
 go_wp2_with fail
 refine(q.ne' (sz w) (zeroC)).lf (node20 · 0) ?_
 clear q
 intro w1 q
 have F:=q.f1
 go_wp2_with fail
 refine(q.ne' (sz w1) (nk 0 (t.pos i) nl)).lf (eat_no · _ h0) ?_
 clear q F
 intro w2 q
 have F:=q.f2
 go_wp2_with fail
 refine q.ey (eat_yes · _ h1) ?_
 clear q F
 intro w3 q
 have F:=q.f2
 cases hq:kindB t (i+1) k 0 1
 ·go_wp2_with fail
  refine(q.p00 51).lf (kind22 · 0 (by decide) 1) ?_
  clear q F
  intro w4 q
  have F:=q.f2
  go_wp2_with fail
  refine(bad64F q.st.rd).mono ?_
  rintro e w5 ⟨rfl,⟨k5,a5,hk5,h5,m5⟩,hk5'⟩
  replace q:=((q.rk h5 hk5' (Nat.le_refl _) (fun e=>absurd e hk5)).up (g':=True) (fun _ e=>absurd e hk5)).dead (s':=(-100)) hk5
  clear h5 hk5'
  replace F:=q.f2
  go_wp2_with fail
  go_light
  exact(q.lk 51 (t.pos i) 0 0 ⟨#[]⟩ hposI (by decide) (fun e=>absurd e hk5)).rt Tryz.results242 1 (by unfold gPattern;exact evt)
 ·have hlt:i+1+1<t.len:=(kindB_lt h.good q.st.rd.lt (by decide) hq).2.1
  have hi1:(i:Int)+1<(t.len:Int):=by have:=q.st.rd.lt;omega
  go_wp2_with fail
  refine(q.p00 51).lf (kind22 · 0 (by decide) 1) ?_
  clear q F
  intro w6 q
  have F:=q.f2
  go_wp2_with fail
  refine q.lf tok38 ?_
  clear q F
  intro w7 q
  have F:=q.f2
  have r1:=q.st.rd.r1
  have fr1:=q.st.rd.fz 1
  have lr:=q.st.rd.l
  go_wp2_with fail
  go_light
  exact(((q.p02 (wrap64 (-(t.num (i+1):Int)))).goI (j':=(i+1)+1) hlt (Nat.lt_succ_self _)).lk 51 (t.pos i) (wrap64 (-(t.num (i+1):Int))) 0 ⟨#[]⟩ hposI (hG:=fun _=>Gr.of_pint (by unfold wrap64;omega))).rt Tryz.results242 1 (by have hfin:nd 51 (t.pos i:Int) (-(t.num (i+1):Int)) 0 E0 []=nd 51 (t.pos i:Int) (wrap64 (-(t.num (i+1):Int))) 0 E0 []:=(by rw[show wrap64 (-(t.num (i+1):Int))= -(t.num (i+1):Int) from(by have:=h.good.numb (i+1);unfold wrap64;omega)]);unfold gPattern;exact evt)
theorem patternF_2 {N:Nat} (hPs:exsF 258 4 N (fun t n=>gList t (gG t n 5) ⟨#[41]⟩ n)) {w:World} {rb tb cap i:Nat} {t:Tk} {k a:Int} (h:Rd w rb tb cap t i k a) (hN:Bd (N+1) t i k 3) (h0:isB t i k 0 ⟨#[95]⟩=false) (h1:isB t i k 0 ⟨#[45]⟩=false) (h2:kindB t i k 0 1=true):Calls Tryz.prog 242 #[.pointer (some ⟨rb,0,none⟩)] w (NodeF 1 w rb tb cap t i k a True 8 noK (fun n=>gPattern t (gG t n 5) n)):=by
 have hl:=h.l
 have HN:Hid (Bd (N+1) t i k 3):=hN
 clear hN
 have hposI:(0:Int)≤(t.pos i:Int)∧(t.pos i:Int)≤7000:=by have:=h.good.posb i;omega
 go_enter Tryz.func242,Tryz.ntmps242
 have hi:(i:Int)<(t.len:Int):=by have:=h.lt;omega
 have hfew:(t.len:Int)≤6001:=by have:=h.good.few;omega
 have hfd:=fld103_3
 have q:=Mf.start (wt:=1) h
 go_wp2_with fail
 refine(q.ne' (sz w) (zeroC)).lf (node20 · 0) ?_
 clear q
 intro w1 q
 have F:=q.f1
 go_wp2_with fail
 refine(q.ne' (sz w1) (nk 0 (t.pos i) nl)).lf (eat_no · _ h0) ?_
 clear q F
 intro w2 q
 have F:=q.f2
 go_wp2_with fail
 refine q.lf (eat_no · _ h1) ?_
 clear q F
 intro w3 q
 have F:=q.f2
 have hlt:i+1<t.len:=(kindB_lt h.good h.lt (by decide) h2).2.1
 go_wp2_with fail
 refine q.lf (kind22 · 0 (by decide) 1) ?_
 clear q F
 intro w4 q
 have F:=q.f2
 go_wp2_with fail
 refine(q.p00 51).lf tok38 ?_
 clear q F
 intro w5 q
 have F:=q.f2
 have r1:=q.st.rd.r1
 have fr1:=q.st.rd.fz 1
 have lr:=q.st.rd.l
 go_wp2_with fail
 go_light
 exact(((q.p02 (t.num i:Int)).goI (j':=i+1) hlt (Nat.lt_succ_self _)).lk 51 (t.pos i) (t.num i:Int) 0 ⟨#[]⟩ hposI (hG:=fun _=>Gr.of_pint (by have:=h.good.numb i;omega))).rt Tryz.results242 1 (by unfold gPattern;exact evt)
end Go.Proofs.YtdplogkmkgekdaaGreatDoor
namespace Go.Proofs.YtdplogkmkgekdaaGreatDoor
open Go.RowKit
theorem patternF_3 {N:Nat} (hPs:exsF 258 4 N (fun t n=>gList t (gG t n 5) ⟨#[41]⟩ n)) {w:World} {rb tb cap i:Nat} {t:Tk} {k a:Int} (h:Rd w rb tb cap t i k a) (hN:Bd (N+1) t i k 3) (h0:isB t i k 0 ⟨#[95]⟩=false) (h1:isB t i k 0 ⟨#[45]⟩=false) (h2:kindB t i k 0 1=false) (h3:isB t i k 0 ⟨#[116,114,117,101]⟩=true):Calls Tryz.prog 242 #[.pointer (some ⟨rb,0,none⟩)] w (NodeF 1 w rb tb cap t i k a True 8 noK (fun n=>gPattern t (gG t n 5) n)):=by
 have hl:=h.l
 have HN:Hid (Bd (N+1) t i k 3):=hN
 clear hN
 have hposI:(0:Int)≤(t.pos i:Int)∧(t.pos i:Int)≤7000:=by have:=h.good.posb i;omega
 go_enter Tryz.func242,Tryz.ntmps242
 have hi:(i:Int)<(t.len:Int):=by have:=h.lt;omega
 have hfew:(t.len:Int)≤6001:=by have:=h.good.few;omega
 have hfd:=fld103_3
 have q:=Mf.start (wt:=1) h
 go_wp2_with fail
 refine(q.ne' (sz w) (zeroC)).lf (node20 · 0) ?_
 clear q
 intro w1 q
 have F:=q.f1
 go_wp2_with fail
 refine(q.ne' (sz w1) (nk 0 (t.pos i) nl)).lf (eat_no · _ h0) ?_
 clear q F
 intro w2 q
 have F:=q.f2
 go_wp2_with fail
 refine q.lf (eat_no · _ h1) ?_
 clear q F
 intro w3 q
 have F:=q.f2
 go_wp2_with fail
 refine q.lf (kind22 · 0 (by decide) 1) ?_
 clear q F
 intro w4 q
 have F:=q.f2
 go_wp2_with fail
 refine q.lf (is41 · 0 (by decide) _) ?_
 clear q F
 intro w5 q
 have F:=q.f2
 go_wp2_with fail
 refine(q.p00 52).ey (eat_yes · _ h3) ?_
 clear q F
 intro w6 q
 have F:=q.f2
 go_wp2_with fail
 go_light
 exact((q.p02 1).lk 52 (t.pos i) 1 0 ⟨#[]⟩ hposI (hG:=fun _=>Gr.of_ebool (by decide) (.inr rfl))).rt Tryz.results242 1 (by unfold gPattern;exact evt)
theorem patternF_4 {N:Nat} (hPs:exsF 258 4 N (fun t n=>gList t (gG t n 5) ⟨#[41]⟩ n)) {w:World} {rb tb cap i:Nat} {t:Tk} {k a:Int} (h:Rd w rb tb cap t i k a) (hN:Bd (N+1) t i k 3) (h0:isB t i k 0 ⟨#[95]⟩=false) (h1:isB t i k 0 ⟨#[45]⟩=false) (h2:kindB t i k 0 1=false) (h3:isB t i k 0 ⟨#[116,114,117,101]⟩=false) (h4:isB t i k 0 ⟨#[102,97,108,115,101]⟩=true):Calls Tryz.prog 242 #[.pointer (some ⟨rb,0,none⟩)] w (NodeF 1 w rb tb cap t i k a True 8 noK (fun n=>gPattern t (gG t n 5) n)):=by
 have hl:=h.l
 have HN:Hid (Bd (N+1) t i k 3):=hN
 clear hN
 have hposI:(0:Int)≤(t.pos i:Int)∧(t.pos i:Int)≤7000:=by have:=h.good.posb i;omega
 go_enter Tryz.func242,Tryz.ntmps242
 have hi:(i:Int)<(t.len:Int):=by have:=h.lt;omega
 have hfew:(t.len:Int)≤6001:=by have:=h.good.few;omega
 have hfd:=fld103_3
 have q:=Mf.start (wt:=1) h
 go_wp2_with fail
 refine(q.ne' (sz w) (zeroC)).lf (node20 · 0) ?_
 clear q
 intro w1 q
 have F:=q.f1
 go_wp2_with fail
 refine(q.ne' (sz w1) (nk 0 (t.pos i) nl)).lf (eat_no · _ h0) ?_
 clear q F
 intro w2 q
 have F:=q.f2
 go_wp2_with fail
 refine q.lf (eat_no · _ h1) ?_
 clear q F
 intro w3 q
 have F:=q.f2
 go_wp2_with fail
 refine q.lf (kind22 · 0 (by decide) 1) ?_
 clear q F
 intro w4 q
 have F:=q.f2
 go_wp2_with fail
 refine q.lf (is41 · 0 (by decide) _) ?_
 clear q F
 intro w5 q
 have F:=q.f2
 go_wp2_with fail
 refine q.lf (is41 · 0 (by decide) _) ?_
 clear q F
 intro w6 q
 have F:=q.f2
 go_wp2_with fail
 refine(q.p00 52).lf (eat_no · _ h3) ?_
 clear q F
 intro w7 q
 have F:=q.f2
 go_wp2_with fail
 refine q.wn (want39F · _) ?_
 clear q F
 intro w8 i8 k8 a8 ok8 m8 q
 have F:=q.f2
 go_wp2_with fail
 go_light
 exact(q.lk 52 (t.pos i) 0 0 ⟨#[]⟩ hposI (hG:=fun _=>Gr.of_ebool (by decide) (.inl rfl))).rt Tryz.results242 1 (by unfold gPattern;exact evt)
theorem patternF_5 {N:Nat} (hPs:exsF 258 4 N (fun t n=>gList t (gG t n 5) ⟨#[41]⟩ n)) {w:World} {rb tb cap i:Nat} {t:Tk} {k a:Int} (h:Rd w rb tb cap t i k a) (hN:Bd (N+1) t i k 3) (h0:isB t i k 0 ⟨#[95]⟩=false) (h1:isB t i k 0 ⟨#[45]⟩=false) (h2:kindB t i k 0 1=false) (h3:isB t i k 0 ⟨#[116,114,117,101]⟩=false) (h4:isB t i k 0 ⟨#[102,97,108,115,101]⟩=false) (h5:isB t i k 0 ⟨#[40]⟩=true):Calls Tryz.prog 242 #[.pointer (some ⟨rb,0,none⟩)] w (NodeF 1 w rb tb cap t i k a True 8 noK (fun n=>gPattern t (gG t n 5) n)):=by
 have hl:=h.l
 have HN:Hid (Bd (N+1) t i k 3):=hN
 clear hN
 have hposI:(0:Int)≤(t.pos i:Int)∧(t.pos i:Int)≤7000:=by have:=h.good.posb i;omega
 go_enter Tryz.func242,Tryz.ntmps242
 have hi:(i:Int)<(t.len:Int):=by have:=h.lt;omega
 have hfew:(t.len:Int)≤6001:=by have:=h.good.few;omega
 have hfd:=fld103_3
 have q:=Mf.start (wt:=1) h
 go_wp2_with fail
 refine(q.ne' (sz w) (zeroC)).lf (node20 · 0) ?_
 clear q
 intro w1 q
 have F:=q.f1
 go_wp2_with fail
 refine(q.ne' (sz w1) (nk 0 (t.pos i) nl)).lf (eat_no · _ h0) ?_
 clear q F
 intro w2 q
 have F:=q.f2
 go_wp2_with fail
 refine q.lf (eat_no · _ h1) ?_
 clear q F
 intro w3 q
 have F:=q.f2
 go_wp2_with fail
 refine q.lf (kind22 · 0 (by decide) 1) ?_
 clear q F
 intro w4 q
 have F:=q.f2
 go_wp2_with fail
 refine q.lf (is41 · 0 (by decide) _) ?_
 clear q F
 intro w5 q
 have F:=q.f2
 go_wp2_with fail
 refine q.lf (is41 · 0 (by decide) _) ?_
 clear q F
 intro w6 q
 have F:=q.f2
 go_wp2_with fail
 refine q.ey (eat_yes · _ h5) ?_
 clear q F
 intro w7 q
 have F:=q.f2
 go_wp2_with fail
 replace q:=q.p00 53
 refine q.li (hPs · (q.bd (HN.out.any2 (isB_lt h.good h.lt h5).1 h.lt) (by decide))) ?_
 clear q F
 intro w8 ao8 cp8 vs8 i8 k8 a8 V8 hl8 hP8 ok8 m8 q
 have F:=q.f2
 by_cases hlen:vs8.length=1
 ·obtain⟨gb,rfl,hgl,hgr,hgn,q9,p9,n9,m9,s9,ko9,kl9,kc9,rfl,hcell⟩:=q.first hlen
  obtain⟨y8,rfl⟩:=q.one rfl
  obtain⟨gn1,gn2⟩:=q.notin hgn 0 rfl
  obtain⟨gz1,gz2⟩:=q.notin hgn 1 rfl
  go_wp2_with fail
  go_light
  exact Mf.retb (C:=noK) (d:=8) Tryz.results242 rfl rfl (q.p05 (.slice (some ⟨gb,0,none⟩) 1 cp8)).toT 1 rfl (fun e=>hP8 e _ (List.mem_cons_self ..)) (by omega) rfl (by unfold gPattern;exact evt)
 ·have hlen':((vs8.length:Int)==1)=false:=by simp;omega
  have hV8:V8.length≠1:=by rw[q.fv.len];exact hlen
  go_wp2_with fail
  go_light
  exact((q.p05 (.slice ao8 vs8.length cp8)).fk 53 (t.pos i) (Nat.le_trans hl8 (by decide)) hposI (hG:=fun e=>Gr.of_all (by decide) (hP8 e))).rt Tryz.results242 1 (by unfold gPattern;exact evt)
end Go.Proofs.YtdplogkmkgekdaaGreatDoor
namespace Go.Proofs.YtdplogkmkgekdaaGreatDoor
open Go.RowKit
theorem patternF_6 {N:Nat} (hPs:exsF 258 4 N (fun t n=>gList t (gG t n 5) ⟨#[41]⟩ n)) {w:World} {rb tb cap i:Nat} {t:Tk} {k a:Int} (h:Rd w rb tb cap t i k a) (hN:Bd (N+1) t i k 3) (h0:isB t i k 0 ⟨#[95]⟩=false) (h1:isB t i k 0 ⟨#[45]⟩=false) (h2:kindB t i k 0 1=false) (h3:isB t i k 0 ⟨#[116,114,117,101]⟩=false) (h4:isB t i k 0 ⟨#[102,97,108,115,101]⟩=false) (h5:isB t i k 0 ⟨#[40]⟩=false) (h6:isB t i k 0 ⟨#[114,101,102]⟩=true):Calls Tryz.prog 242 #[.pointer (some ⟨rb,0,none⟩)] w (NodeF 1 w rb tb cap t i k a True 8 noK (fun n=>gPattern t (gG t n 5) n)):=by
 have hl:=h.l
 have HN:Hid (Bd (N+1) t i k 3):=hN
 clear hN
 have hposI:(0:Int)≤(t.pos i:Int)∧(t.pos i:Int)≤7000:=by have:=h.good.posb i;omega
 go_enter Tryz.func242,Tryz.ntmps242
 have hi:(i:Int)<(t.len:Int):=by have:=h.lt;omega
 have hfew:(t.len:Int)≤6001:=by have:=h.good.few;omega
 have hfd:=fld103_3
 have q:=Mf.start (wt:=1) h
 go_wp2_with fail
 refine(q.ne' (sz w) (zeroC)).lf (node20 · 0) ?_
 clear q
 intro w1 q
 have F:=q.f1
 go_wp2_with fail
 refine(q.ne' (sz w1) (nk 0 (t.pos i) nl)).lf (eat_no · _ h0) ?_
 clear q F
 intro w2 q
 have F:=q.f2
 go_wp2_with fail
 refine q.lf (eat_no · _ h1) ?_
 clear q F
 intro w3 q
 have F:=q.f2
 go_wp2_with fail
 refine q.lf (kind22 · 0 (by decide) 1) ?_
 clear q F
 intro w4 q
 have F:=q.f2
 go_wp2_with fail
 refine q.lf (is41 · 0 (by decide) _) ?_
 clear q F
 intro w5 q
 have F:=q.f2
 go_wp2_with fail
 refine q.lf (is41 · 0 (by decide) _) ?_
 clear q F
 intro w6 q
 have F:=q.f2
 go_wp2_with fail
 refine q.lf (eat_no · _ h5) ?_
 clear q F
 intro w7 q
 have F:=q.f2
 go_wp2_with fail
 refine q.lf (is41 · 0 (by decide) _) ?_
 clear q F
 intro w8 q
 have F:=q.f2
 go_wp2_with fail
 refine(q.p00 50).ey (eat_yes · _ h6) ?_
 clear q F
 intro w9 q
 have F:=q.f2
 go_wp2_with fail
 refine(q.p02 1).et (eat42 · _) ?_
 clear q F
 intro w10 b10 i10 hE10 m10 q
 have F:=q.f2
 go_wp2_with fail
 ·go_wp2_with fail
  refine(q.p02 2).nm name40F ?_
  clear q F
  intro w11 s11 i11 k11 a11 hs11 ho11 ok11 m11 q
  have F:=q.f2
  go_wp2_with fail
  go_light
  exact((q.p04 s11).lk 50 (t.pos i) 2 0 s11 hposI (Nat.le_trans hs11 (by decide))).rt Tryz.results242 1 (by unfold gPattern;exact evt)
 ·go_wp2_with fail
  refine q.nm name40F ?_
  clear q F
  intro w12 s12 i12 k12 a12 hs12 ho12 ok12 m12 q
  have F:=q.f2
  go_wp2_with fail
  go_light
  exact((q.p04 s12).lk 50 (t.pos i) 1 0 s12 hposI (Nat.le_trans hs12 (by decide))).rt Tryz.results242 1 (by unfold gPattern;exact evt)
theorem patternF_7 {N:Nat} (hPs:exsF 258 4 N (fun t n=>gList t (gG t n 5) ⟨#[41]⟩ n)) {w:World} {rb tb cap i:Nat} {t:Tk} {k a:Int} (h:Rd w rb tb cap t i k a) (hN:Bd (N+1) t i k 3) (h0:isB t i k 0 ⟨#[95]⟩=false) (h1:isB t i k 0 ⟨#[45]⟩=false) (h2:kindB t i k 0 1=false) (h3:isB t i k 0 ⟨#[116,114,117,101]⟩=false) (h4:isB t i k 0 ⟨#[102,97,108,115,101]⟩=false) (h5:isB t i k 0 ⟨#[40]⟩=false) (h6:isB t i k 0 ⟨#[114,101,102]⟩=false) (h7:isB t i k 0 ⟨#[109,117,116]⟩=true):Calls Tryz.prog 242 #[.pointer (some ⟨rb,0,none⟩)] w (NodeF 1 w rb tb cap t i k a True 8 noK (fun n=>gPattern t (gG t n 5) n)):=by
 have hl:=h.l
 have HN:Hid (Bd (N+1) t i k 3):=hN
 clear hN
 have hposI:(0:Int)≤(t.pos i:Int)∧(t.pos i:Int)≤7000:=by have:=h.good.posb i;omega
 go_enter Tryz.func242,Tryz.ntmps242
 have hi:(i:Int)<(t.len:Int):=by have:=h.lt;omega
 have hfew:(t.len:Int)≤6001:=by have:=h.good.few;omega
 have hfd:=fld103_3
 have q:=Mf.start (wt:=1) h
 go_wp2_with fail
 refine(q.ne' (sz w) (zeroC)).lf (node20 · 0) ?_
 clear q
 intro w1 q
 have F:=q.f1
 go_wp2_with fail
 refine(q.ne' (sz w1) (nk 0 (t.pos i) nl)).lf (eat_no · _ h0) ?_
 clear q F
 intro w2 q
 have F:=q.f2
 go_wp2_with fail
 refine q.lf (eat_no · _ h1) ?_
 clear q F
 intro w3 q
 have F:=q.f2
 go_wp2_with fail
 refine q.lf (kind22 · 0 (by decide) 1) ?_
 clear q F
 intro w4 q
 have F:=q.f2
 go_wp2_with fail
 refine q.lf (is41 · 0 (by decide) _) ?_
 clear q F
 intro w5 q
 have F:=q.f2
 go_wp2_with fail
 refine q.lf (is41 · 0 (by decide) _) ?_
 clear q F
 intro w6 q
 have F:=q.f2
 go_wp2_with fail
 refine q.lf (eat_no · _ h5) ?_
 clear q F
 intro w7 q
 have F:=q.f2
 go_wp2_with fail
 refine q.lf (is41 · 0 (by decide) _) ?_
 clear q F
 intro w8 q
 have F:=q.f2
 go_wp2_with fail
 refine q.lf (is41 · 0 (by decide) _) ?_
 clear q F
 intro w9 q
 have F:=q.f2
 go_wp2_with fail
 refine(q.p00 50).lf (eat_no · _ h6) ?_
 clear q F
 intro w10 q
 have F:=q.f2
 go_wp2_with fail
 refine q.wn (want39F · _) ?_
 clear q F
 intro w11 i11 k11 a11 ok11 m11 q
 have F:=q.f2
 go_wp2_with fail
 refine(q.p03 1).nm name40F ?_
 clear q F
 intro w12 s12 i12 k12 a12 hs12 ho12 ok12 m12 q
 have F:=q.f2
 go_wp2_with fail
 go_light
 exact((q.p04 s12).lk 50 (t.pos i) 0 1 s12 hposI (Nat.le_trans hs12 (by decide))).rt Tryz.results242 1 (by unfold gPattern;exact evt)
end Go.Proofs.YtdplogkmkgekdaaGreatDoor
namespace Go.Proofs.YtdplogkmkgekdaaGreatDoor
open Go.RowKit
theorem patternF_8 {N:Nat} (hPs:exsF 258 4 N (fun t n=>gList t (gG t n 5) ⟨#[41]⟩ n)) {w:World} {rb tb cap i:Nat} {t:Tk} {k a:Int} (h:Rd w rb tb cap t i k a) (hN:Bd (N+1) t i k 3) (h0:isB t i k 0 ⟨#[95]⟩=false) (h1:isB t i k 0 ⟨#[45]⟩=false) (h2:kindB t i k 0 1=false) (h3:isB t i k 0 ⟨#[116,114,117,101]⟩=false) (h4:isB t i k 0 ⟨#[102,97,108,115,101]⟩=false) (h5:isB t i k 0 ⟨#[40]⟩=false) (h6:isB t i k 0 ⟨#[114,101,102]⟩=false) (h7:isB t i k 0 ⟨#[109,117,116]⟩=false):Calls Tryz.prog 242 #[.pointer (some ⟨rb,0,none⟩)] w (NodeF 1 w rb tb cap t i k a True 8 noK (fun n=>gPattern t (gG t n 5) n)):=by
 have hl:=h.l
 have HN:Hid (Bd (N+1) t i k 3):=hN
 clear hN
 have hposI:(0:Int)≤(t.pos i:Int)∧(t.pos i:Int)≤7000:=by have:=h.good.posb i;omega
 go_enter Tryz.func242,Tryz.ntmps242
 have hi:(i:Int)<(t.len:Int):=by have:=h.lt;omega
 have hfew:(t.len:Int)≤6001:=by have:=h.good.few;omega
 have hfd:=fld103_3
 have q:=Mf.start (wt:=1) h
 go_wp2_with fail
 refine(q.ne' (sz w) (zeroC)).lf (node20 · 0) ?_
 clear q
 intro w1 q
 have F:=q.f1
 go_wp2_with fail
 refine(q.ne' (sz w1) (nk 0 (t.pos i) nl)).lf (eat_no · _ h0) ?_
 clear q F
 intro w2 q
 have F:=q.f2
 go_wp2_with fail
 refine q.lf (eat_no · _ h1) ?_
 clear q F
 intro w3 q
 have F:=q.f2
 go_wp2_with fail
 refine q.lf (kind22 · 0 (by decide) 1) ?_
 clear q F
 intro w4 q
 have F:=q.f2
 go_wp2_with fail
 refine q.lf (is41 · 0 (by decide) _) ?_
 clear q F
 intro w5 q
 have F:=q.f2
 go_wp2_with fail
 refine q.lf (is41 · 0 (by decide) _) ?_
 clear q F
 intro w6 q
 have F:=q.f2
 go_wp2_with fail
 refine q.lf (eat_no · _ h5) ?_
 clear q F
 intro w7 q
 have F:=q.f2
 go_wp2_with fail
 refine q.lf (is41 · 0 (by decide) _) ?_
 clear q F
 intro w8 q
 have F:=q.f2
 go_wp2_with fail
 refine q.lf (is41 · 0 (by decide) _) ?_
 clear q F
 intro w9 q
 have F:=q.f2
 go_wp2_with fail
 refine q.nm (path80F · 3 (by decide) (by decide)) ?_
 clear q F
 intro w10 s10 i10 k10 a10 hs10 ho10 ok10 m10 q
 have F:=q.f2
 have HO:Hid (k10=0→pathOK 3 s10):=ho10
 clear ho10
 cases hkk:(k10==0)
 ·go_wp2_with fail
  refine((q.p04 s10).p00 50).lf ok21b ?_
  clear q F
  intro w11 q
  have F:=q.f2
  go_wp2_with fail
  refine(q.p00 54).lf (is41 · 0 (by decide) _) ?_
  clear q F
  intro w12 q
  have F:=q.f2
  go_wp2_with fail
  ·have HB:Hid (∀i' k' r',(k'=0→i<i')→r'<64→Bd N t i' k' r'):=HN.out.any2 (q.ok (isB_lt h.good q.st.rd.lt ‹_›).1) h.lt
   go_wp2_with fail
   refine q.wn (want39F · _) ?_
   clear q F
   intro w13 i13 k13 a13 ok13 m13 q
   have F:=q.f2
   go_wp2_with fail
   refine q.lf (is41 · 0 (by decide) _) ?_
   clear q F
   intro w14 q
   have F:=q.f2
   go_upto_if 113 with fail
   go_cut [] (fun wx=>∃(j15:Nat) (k15 a15:Int),Hid (k15=0→pathOK 3 s10)∧(Ev (fun _=>cond (isB t i13 k13 0 ⟨#[41]⟩) (gBad t) (ret ())) ⟨i13,k13,a13⟩ ((),⟨j15,k15,a15⟩)∧Mf 1 w rb tb cap t i k True (-32) wx j15 k15 a15 [(sz w1,nodeC 54 (t.pos i) 0 0 s10 nl),(sz w,zeroC)] [] nl [] [] []))
   case first=>
    go_wp2_with fail
    ·go_wp2_with fail
     refine(bad64F q.st.rd).mono ?_
     rintro e w16 ⟨rfl,⟨k16,a16,hk16,h16,m16⟩,hk16'⟩
     replace q:=((q.rk h16 hk16' (Nat.le_refl _) (fun e=>absurd e hk16)).up (g':=True) (fun _ e=>absurd e hk16)).dead (s':=(-100)) hk16
     clear h16 hk16'
     replace F:=q.f2
     go_wp2_with fail
     go_meet
     exact⟨i13,k16,a16,(fun e=>absurd e hk16),evt,(q.less (by omega))⟩
    ·go_wp2_with fail
     go_meet
     exact⟨i13,k13,a13,(fun e=>HO.out (ok13.out e)),evt,(q.less (by omega))⟩
   case rest=>
    clear F q
    obtain⟨j15,k15,a15,HP,mm,q⟩:=hcut
    obtain⟨w17,hw⟩:∃x,x=wc:=⟨_,rfl⟩
    subst hw
    have F:=q.f2
    go_wp2_with fail
    refine q.li (hPs · (q.bd HB.out (by decide))) ?_
    clear q F
    intro w18 ao18 cp18 vs18 i18 k18 a18 V18 hl18 hP18 ok18 m18 q
    have F:=q.f2
    go_wp2_with fail
    go_light
    exact((q.p05 (.slice ao18 vs18.length cp18)).fo 54 (t.pos i) 0 0 s10 (Nat.le_trans hl18 (by decide)) hposI hs10 (hG:=fun e=>Gr.of_pathed (by decide) ⟨HP.out (ok18.out e),hP18 e⟩)).rt Tryz.results242 1 (by unfold gPattern;exact evt)
  ·go_wp2_with fail
   go_light
   exact(q.lk 54 (t.pos i) 0 0 s10 hposI hs10 (hG:=fun e=>Gr.of_pathed (by decide) ⟨HO.out e,fun x hx=>(by cases hx)⟩)).rt Tryz.results242 1 (by unfold gPattern;exact evt)
 ·go_wp2_with fail
  refine((q.p04 s10).p00 50).lf ok21b ?_
  clear q F
  intro w19 q
  have F:=q.f2
  go_wp2_with fail
  refine(plainF _ _ hs10).mono ?_
  rintro e _ ⟨⟨bb20,rfl,HBB⟩,rfl⟩
  go_wp2_with fail
  ·go_wp2_with fail
   go_light
   exact(q.lk 50 (t.pos i) 0 0 s10 hposI hs10).rt Tryz.results242 1 (by unfold gPattern;exact evt)
  ·go_wp2_with fail
   refine(q.p00 54).lf (is41 · 0 (by decide) _) ?_
   clear q F
   intro w21 q
   have F:=q.f2
   go_wp2_with fail
   ·have HB:Hid (∀i' k' r',(k'=0→i<i')→r'<64→Bd N t i' k' r'):=HN.out.any2 (q.ok (isB_lt h.good q.st.rd.lt ‹_›).1) h.lt
    go_wp2_with fail
    refine q.wn (want39F · _) ?_
    clear q F
    intro w22 i22 k22 a22 ok22 m22 q
    have F:=q.f2
    go_wp2_with fail
    refine q.lf (is41 · 0 (by decide) _) ?_
    clear q F
    intro w23 q
    have F:=q.f2
    go_upto_if 113 with fail
    go_cut [] (fun wx=>∃(j24:Nat) (k24 a24:Int),Hid (k24=0→pathOK 3 s10)∧(Ev (fun _=>cond (isB t i22 k22 0 ⟨#[41]⟩) (gBad t) (ret ())) ⟨i22,k22,a22⟩ ((),⟨j24,k24,a24⟩)∧Mf 1 w rb tb cap t i k True (-32) wx j24 k24 a24 [(sz w1,nodeC 54 (t.pos i) 0 0 s10 nl),(sz w,zeroC)] [] nl [] [] []))
    case first=>
     go_wp2_with fail
     ·go_wp2_with fail
      refine(bad64F q.st.rd).mono ?_
      rintro e w25 ⟨rfl,⟨k25,a25,hk25,h25,m25⟩,hk25'⟩
      replace q:=((q.rk h25 hk25' (Nat.le_refl _) (fun e=>absurd e hk25)).up (g':=True) (fun _ e=>absurd e hk25)).dead (s':=(-100)) hk25
      clear h25 hk25'
      replace F:=q.f2
      go_wp2_with fail
      go_meet
      exact⟨i22,k25,a25,(fun e=>absurd e hk25),evt,(q.less (by omega))⟩
     ·go_wp2_with fail
      go_meet
      exact⟨i22,k22,a22,(fun e=>HO.out (ok22.out e)),evt,(q.less (by omega))⟩
    case rest=>
     clear F q
     obtain⟨j24,k24,a24,HP,mm,q⟩:=hcut
     obtain⟨w26,hw⟩:∃x,x=wc:=⟨_,rfl⟩
     subst hw
     have F:=q.f2
     go_wp2_with fail
     refine q.li (hPs · (q.bd HB.out (by decide))) ?_
     clear q F
     intro w27 ao27 cp27 vs27 i27 k27 a27 V27 hl27 hP27 ok27 m27 q
     have F:=q.f2
     go_wp2_with fail
     go_light
     exact((q.p05 (.slice ao27 vs27.length cp27)).fo 54 (t.pos i) 0 0 s10 (Nat.le_trans hl27 (by decide)) hposI hs10 (hG:=fun e=>Gr.of_pathed (by decide) ⟨HP.out (ok27.out e),hP27 e⟩)).rt Tryz.results242 1 (by unfold gPattern;exact evt)
   ·go_wp2_with fail
    go_light
    exact(q.lk 54 (t.pos i) 0 0 s10 hposI hs10 (hG:=fun e=>Gr.of_pathed (by decide) ⟨HO.out e,fun x hx=>(by cases hx)⟩)).rt Tryz.results242 1 (by unfold gPattern;exact evt)
end Go.Proofs.YtdplogkmkgekdaaGreatDoor
namespace Go.Proofs.YtdplogkmkgekdaaGreatDoor
open Go.RowKit
theorem patternF {N:Nat} (hPs:exsF 258 4 N (fun t n=>gList t (gG t n 5) ⟨#[41]⟩ n)):exF 242 3 (N+1) (fun t n=>gPattern t (gG t n 5) n):=by
 intro w rb tb cap i t k a h hN
 cases h0:isB t i k 0 ⟨#[95]⟩
 ·cases h1:isB t i k 0 ⟨#[45]⟩
  ·cases h2:kindB t i k 0 1
   ·cases h3:isB t i k 0 ⟨#[116,114,117,101]⟩
    ·cases h4:isB t i k 0 ⟨#[102,97,108,115,101]⟩
     ·cases h5:isB t i k 0 ⟨#[40]⟩
      ·cases h6:isB t i k 0 ⟨#[114,101,102]⟩
       ·cases h7:isB t i k 0 ⟨#[109,117,116]⟩
        ·exact patternF_8 hPs h hN h0 h1 h2 h3 h4 h5 h6 h7
        ·exact patternF_7 hPs h hN h0 h1 h2 h3 h4 h5 h6 h7
       ·exact patternF_6 hPs h hN h0 h1 h2 h3 h4 h5 h6
      ·exact patternF_5 hPs h hN h0 h1 h2 h3 h4 h5
     ·exact patternF_4 hPs h hN h0 h1 h2 h3 h4
    ·exact patternF_3 hPs h hN h0 h1 h2 h3
   ·exact patternF_2 hPs h hN h0 h1 h2
  ·exact patternF_1 hPs h hN h0 h1
 ·exact patternF_0 hPs h hN h0
end Go.Proofs.YtdplogkmkgekdaaGreatDoor
namespace Go.Proofs.YtdplogkmkgekdaaGreatDoor
open Go.RowKit
theorem capsF:liF 228 True (fun ks=>∀x∈ks,x=47) (fun t n=>gCaps t n):=by
 intro w rb tb cap i t k a h
 have hl:=h.l
 go_enter Tryz.func228,Tryz.ntmps228
 have q:=Mf.start (wt:=1) h
 go_wp2_with fail
 refine q.wn (want39F · _) ?_
 clear q
 intro w1 i1 k1 a1 ok1 m1 q
 go_wp2_with fail
 refine q.et (eat42 · _) ?_
 clear q
 intro w2 b2 i2 hE2 m2 q
 go_wp2_with fail
 ·go_wp2_with fail
  go_ret
  exact Mf.post (d:=0) q (fun _=>trivial) (by simp) (fun _ x hx=>by cases hx) (by omega) (by unfold gCaps;exact evt)
 ·obtain rfl:b2=false:= ‹_›
  go_wp2_with fail
  go_loopg [3] (ml t i2 k1) (fun g v wr=>∃(vs:List (List Value)) (j:Nat) (kj aj:Int),g=ml t j kj∧Few 0 vs j kj∧(kj=0→(fun ks=>∀x∈ks,x=47) (vs.map labOf))∧∃(V:List (List Nr)),Hid (∀r,EvL (fun _=>gCapsB t) V ⟨j,kj,aj⟩ r→Ev (fun n=>gCaps t n) ⟨i,k,a⟩ r)∧Mf 1 w rb tb cap t i k False (-16) wr j kj aj [] [] v vs [] V)
  case atStart=>exact⟨[],i2,k1,a1,rfl,⟨fun _=>by simp,by simp⟩,(fun e=>(fun x hx=>by cases hx)),_,(fun r hr=>(by unfold gCaps;exact evt)),(q.up (fun x=>x.elim)).less (by omega)⟩
  case round=>
   clear q
   obtain⟨vs,j,kj,aj,hgk,hF,hC0,V,HM,q⟩:=hrel
   have HC:Hid (kj=0→(fun ks=>∀x∈ks,x=47) (vs.map labOf)):=hC0
   clear hC0
   have hj:=q.st.rd.lt
   have hposJ:(0:Int)≤(t.pos j:Int)∧(t.pos j:Int)≤7000:=by have:=h.good.posb j;omega
   have HG:Hid (gk=ml t j kj):=hgk
   clear hgk
   obtain⟨ao3,cp3,rfl⟩:=q.shape
   cases hk0:(kj==0)
   ·go_wp2_with fail
    refine q.lf ok21b ?_
    clear q
    intro w4 q
    go_wp2_with fail
    go_ret
    exact Mf.post (d:=0) (q.up (g':=True) (fun _ e=>absurd e (by simpa using hk0))) (fun _=>trivial) hF.2 (fun e=>absurd e (by simpa using hk0)) (by omega) (HM.out _ (EvL.stop (by unfold gCapsB;exact evt)))
   ·obtain rfl:kj=0:=by simpa using hk0
    have hb1:Hid (i≤j∧k=0):=⟨q.le,q.ok rfl⟩
    replace HC:Hid ((fun ks=>∀x∈ks,x=47) (vs.map labOf)):=HC.out rfl
    have hFl:vs.length≤6001:=by have:=hF.1 rfl;have:=h.good.few;omega
    replace q:Mf 1 w rb tb cap t j 0 False (16*((j:Int) - (i:Int))+(-16)) wr j 0 aj [] [] (.slice ao3 vs.length cp3) vs [] V:=q.rebase.less (by omega)
    go_wp2_with fail
    refine q.lf ok21b ?_
    clear q
    intro w5 q
    go_wp2_with fail
    refine q.lf (node20 · 47) ?_
    clear q
    intro w6 q
    go_wp2_with fail
    refine(q.ne' (sz w6) (nk 47 (t.pos j) nl)).et (eat42 · _) ?_
    clear q
    intro w7 b7 i7 hE7 m7 q
    have F:=q.f1
    go_upto_if 15 with fail
    go_cut [] (fun wx=>∃(NN:Int) (j8:Nat) (k8 a8:Int),(Ev (fun _=>bnd (gEat t ⟨#[38]⟩) (fun b21=>cond (b21) (bnd (gEat t ⟨#[109,117,116]⟩) (fun b20=>cond (b20) (ret ((2:Int))) (ret ((1:Int))))) (ret ((0:Int))))) ⟨j,0,aj⟩ (NN,⟨j8,k8,a8⟩)∧Mf 1 w rb tb cap t j 0 False (16*((j:Int) - (i:Int))+(-16)) wx j8 k8 a8 [(sz w6,nodeC 47 (t.pos j) NN 0 ⟨#[]⟩ nl)] [] (.slice ao3 vs.length cp3) vs [] V))
    case first=>
     go_wp2_with fail
     ·go_wp2_with fail
      refine(q.p02 1).et (eat42 · _) ?_
      clear q F
      intro w9 b9 i9 hE9 m9 q
      have F:=q.f1
      go_wp2_with fail
      ·go_wp2_with fail
       go_meet
       exact⟨2,i9,0,aj,(by exact evt),((q.p02 2).less (by omega))⟩
      ·go_wp2_with fail
       go_meet
       exact⟨1,i9,0,aj,(by exact evt),(q.less (by omega))⟩
     ·go_wp2_with fail
      go_meet
      exact⟨0,i7,0,aj,(by exact evt),(q.less (by omega))⟩
    case rest=>
     clear F q
     obtain⟨NN,j8,k8,a8,mm,q⟩:=hcut
     obtain⟨w10,hw⟩:∃x,x=wc:=⟨_,rfl⟩
     subst hw
     have F:=q.f1
     go_wp2_with fail
     refine q.nm name40F ?_
     clear q F
     intro w11 s11 i11 k11 a11 hs11 ho11 ok11 m11 q
     have F:=q.f1
     go_wp2_with (at_builtin;refine((q.p04 s11).lk 47 (t.pos j) NN 0 s11 hposJ (Nat.le_trans hs11 (by decide))).ap (sz w11) (Nat.le_trans hFl (by decide)) ?_;clear q F;intro w12 ao12 cp12 q;have F:=q.f1)
     go_wp2_with fail
     refine q.et (eat42 · _) ?_
     clear q F
     intro w13 b13 i13 hE13 m13 q
     have F:=q.f1
     go_wp2_with fail
     ·go_wp2_with fail
      go_ret
      exact Mf.post (d:=0) ((q.unbase (i':=i) (k':=k) (g':=False) (s':= -31) hb1.out.1 (fun _=>hb1.out.2) (fun x=>x.elim) (by omega)).up (g':=True) (fun _ e=>Nat.lt_of_le_of_lt hb1.out.1 (q.go trivial e))) (fun _=>trivial) (by have h1:=hF.1 rfl;have h2:=h.good.few;simp only[List.length_append,List.length_cons,List.length_nil];omega) (fun _=>by rw[List.map_append];exact all_snoc HC.out (lab_ne (by decide))) (by omega) (HM.out _ (EvL.stop (by unfold gCapsB;exact evt)))
     ·go_wp2_with fail
      refine q.wn (want39F · _) ?_
      clear q F
      intro w14 i14 k14 a14 ok14 m14 q
      have F:=q.f1
      go_wp2_with fail
      go_roundg (ml t i14 k14)
      case measure=>rw[HG.out];exact ml_lt hj q.pop.le (q.pop.go trivial)
      case rel=>exact⟨(vs++[(nodeC 47 (t.pos j) NN 0 s11 nl).toList]),i14,k14,a14,rfl,Few.snoc (t:=t) hF rfl hj h.good (q.pop.go trivial),(fun _=>by rw[List.map_append];exact all_snoc HC.out (lab_ne (by decide))),_,(fun r hr=>HM.out r (EvL.on (by unfold gCapsB;exact evt) hr)),q.pop.unbase (s':= -16) hb1.out.1 (fun _=>hb1.out.2) (fun x=>x.elim) (by omega)⟩
end Go.Proofs.YtdplogkmkgekdaaGreatDoor
