/- The project's parser: bounds. -/
import Derived.Test.YtdplogkmkgekdaaGreatDoorPkt
import Derived.Test.YtdplogkmkgekdaaGreatDoorPkl
set_option linter.all false
set_option maxRecDepth 100000
set_option maxHeartbeats 4000000
namespace Go.Proofs.YtdplogkmkgekdaaGreatDoor.Pj
open Go.RowKit
theorem bnd_assoc {α β γ:Type} (m:GP α) (f:α→GP β) (g:β→GP γ):bnd (bnd m f) g=bnd m (fun x=>bnd (f x) g):=by
 funext s
 unfold bnd
 cases m s<;>rfl
theorem cond_bnd {α β:Type} (b:Bool) (x y:GP α) (g:α→GP β):bnd (cond b x y) g=cond b (bnd x g) (bnd y g):=by cases b<;>rfl
theorem ret_bnd {α β:Type} (x:α) (g:α→GP β):bnd (ret x) g=g x:=rfl
theorem Ev.cg {α:Type} {m m':Nat→GP α} {s s':Rs} {r:α × Rs} (h:Ev m s r) (e:∀n,m' n s'=m n s):Ev m' s' r:=by
 obtain⟨a,ha⟩:=h
 exact⟨a,fun n hn=>(e n).trans (ha n hn)⟩
theorem Wr.cg {α:Type} {m m':Nat→GP α} {s s':Rs} {p:Int} (h:Wr m s p) (e:∀n,m' n s'=m n s):Wr m' s' p:=by
 obtain⟨a,ha⟩:=h
 exact⟨a,fun n hn r hr=>ha n hn r ((e n).symm.trans hr)⟩
theorem gRef_two {t:Tk} {T:GP (List Nr)} {i:Nat} (h:isB t i 0 0 ⟨#[38,38]⟩=true):gRef t T ⟨i,0,0⟩=bnd (gLent t T (t.pos i+1)) (fun y=>ret (nd 16 (t.pos i) 0 0 E0 [y])) ⟨i+1,0,0⟩:=by
 unfold gRef gLent
 simp only[bnd_assoc,ret_bnd]
 have e:(bnd (gAt t) (fun p=>bnd (gIs t 0 ⟨#[38,38]⟩) (fun d=>seq (gAdd 1) (bnd (gKind t 0 4) (fun b=>bnd (cond b (gLifeName t) (ret E0)) (fun s=>bnd (gMut t) (fun n=>bnd T (fun y=>cond d (ret (nd 16 p 0 0 E0 [nd 16 (p+1) n 0 s [y]])) (ret (nd 16 p n 0 s [y]))))))))) ⟨i,0,0⟩:Option _)=(bnd (gKind t 0 4) (fun b=>bnd (cond b (gLifeName t) (ret E0)) (fun s=>bnd (gMut t) (fun n=>bnd T (fun y=>cond (isB t i 0 0 ⟨#[38,38]⟩) (ret (nd 16 (t.pos i) 0 0 E0 [nd 16 (t.pos i+1) n 0 s [y]])) (ret (nd 16 (t.pos i) n 0 s [y]))))))) ⟨i+1,0,0⟩:=rfl
 rw[e,h]
 rfl
theorem gRef_one {t:Tk} {T:GP (List Nr)} {i:Nat} (h:isB t i 0 0 ⟨#[38,38]⟩=false):gRef t T ⟨i,0,0⟩=gLent t T (t.pos i) ⟨i+1,0,0⟩:=by
 unfold gRef gLent
 have e:(bnd (gAt t) (fun p=>bnd (gIs t 0 ⟨#[38,38]⟩) (fun d=>seq (gAdd 1) (bnd (gKind t 0 4) (fun b=>bnd (cond b (gLifeName t) (ret E0)) (fun s=>bnd (gMut t) (fun n=>bnd T (fun y=>cond d (ret (nd 16 p 0 0 E0 [nd 16 (p+1) n 0 s [y]])) (ret (nd 16 p n 0 s [y]))))))))) ⟨i,0,0⟩:Option _)=(bnd (gKind t 0 4) (fun b=>bnd (cond b (gLifeName t) (ret E0)) (fun s=>bnd (gMut t) (fun n=>bnd T (fun y=>cond (isB t i 0 0 ⟨#[38,38]⟩) (ret (nd 16 (t.pos i) 0 0 E0 [nd 16 (t.pos i+1) n 0 s [y]])) (ret (nd 16 (t.pos i) n 0 s [y]))))))) ⟨i+1,0,0⟩:=rfl
 rw[e,h]
 rfl
def gFnT (t:Tk) (T:GP (List Nr)) (p:Int) (fu:Nat):GP (List Nr):=bnd (gKind t 0 4) (fun k=>bnd (cond (k) (gLifeName t) (ret (E0))) (fun s=>bnd (gMutOnce t) (fun n=>seq (gWant t ⟨#[40]⟩) (bnd (gList t T ⟨#[41]⟩ fu) (fun ks=>seq (gWant t ⟨#[45,62]⟩) (bnd (T) (fun y=>ret (nd 17 p n 0 s (ks++[y])))))))))
theorem refP67 {N:Nat} (hT:rdP 70 N (fun t n=>gG t n 0)) {w:World} {rb tb i:Nat} {cap:Cp} {t:Tk} (h:Rd w rb tb cap t i 0 0) (hN:t.len - i≤N+1) (hd:isB t i 0 0 ⟨#[38,38]⟩=false→isB t i 0 0 ⟨#[38]⟩=true):
 Calls Tryz.prog 67 #[.pointer (some ⟨rb,0,none⟩)] w (NodeP w rb tb cap t i True (fun n=>gRef t (gG t n 0))):=by
 have hl:=h.l
 have hposI:(0:Int)≤(t.pos i:Int)∧(t.pos i:Int)≤7000:=by have:=h.good.posb i;omega
 have hposJ:(0:Int)≤(t.pos i:Int)+1∧(t.pos i:Int)+1≤7000:=by have:=h.good.posb i;omega
 have hfd:=fld103_1
 have HD:=Hid_nx hd
 clear hd
 go_enter Tryz.func67,Tryz.ntmps67
 have q:=Mf.start h
 go_wp2_with fail
 refine(q.ne' (sz w) (zeroC)).lf (tokP ·) ?_
 clear q
 intro w1 q
 have F:=q.f1
 go_wp2_with fail
 refine q.et (skipP · _ (ask)) ?_
 clear q F
 intro w2 b2 i2 hE2 m2 q
 have F:=q.f1
 go_wp2_with fail
 ·have hb:=hE2.is_.symm.trans ‹_›
  obtain rfl:=(hE2.yes ‹_›).1
  go_wp2_with fail
  refine q.nd (fun hr=>lentP hT hr (by have:=hr.lt;omega) hposJ) (fun w' p hk hw=>⟨rfl,.inr (q.thr hk (Wr.cg (m:=fun n=>bnd (gLent t (gG t n 0) (t.pos i+1)) (fun y=>ret (nd 16 (t.pos i) 0 0 E0 [y]))) (Wr.fst hw (fun _ _=>Sy.ret)) (fun n=>gRef_two hb)))⟩) ?_
  clear q F
  intro w3 x3 i3 y3 hl3 m3 q
  have F:=q.f1
  go_wp2_with fail
  go_light
  refine Mf.rt (q.l1 (sz w3) 16 (t.pos i) 0 0 ⟨#[]⟩ hposI) Tryz.results67 0 (Ev.cg (m:=fun n=>bnd (gLent t (gG t n 0) (t.pos i+1)) (fun y=>ret (nd 16 (t.pos i) 0 0 E0 [y]))) (Ev.bnd' m3 Ev.ret') (fun n=>gRef_two hb)) ?_
  simp[set11,World.setCell_alloc_past,F,Nat.lt_succ_of_lt]
 ·obtain rfl:i=i2:=(hE2.no ‹_›).symm
  have hb:=hE2.is_.symm.trans ‹_›
  go_wp2_with fail
  refine q.wy (mustP · _ (ask)) (HD.out hb) ?_
  clear q F
  intro w4 q
  have F:=q.f1
  go_wp2_with fail
  refine q.nd (fun hr=>lentP hT hr (by have:=hr.lt;omega) hposI) (fun w' p hk hw=>⟨rfl,.inr (q.thr hk (Wr.cg hw (fun n=>gRef_one hb)))⟩) ?_
  clear q F
  intro w5 x3 i3 y3 hl3 m3 q
  have F:=q.f1
  go_wp2_with fail
  go_light
  exact Mf.rt (q) Tryz.results67 0 (Ev.cg m3 (fun n=>gRef_one hb))
theorem fnTP {N:Nat} (hT:rdP 70 N (fun t n=>gG t n 0)) {w:World} {rb tb i:Nat} {cap:Cp} {t:Tk} (h:Rd w rb tb cap t i 0 0) (hN:t.len - i≤N+1) (hb:isB t i 0 0 ⟨#[102,110]⟩=true):
 Calls Tryz.prog 66 #[.pointer (some ⟨rb,0,none⟩)] w (NodeP w rb tb cap t i True (fun n=>seq (gAdd 1) (gFnT t (gG t n 0) (t.pos i) n))):=by
 have hl:=h.l
 have hposI:(0:Int)≤(t.pos i:Int)∧(t.pos i:Int)≤7000:=by have:=h.good.posb i;omega
 have HB:=Hid_nx hb
 clear hb
 go_enter Tryz.func66,Tryz.ntmps66
 have q:=Mf.start h
 go_wp2_with fail
 refine(q.ne' (sz w) (zeroC)).lf (nodeP · 17) ?_
 clear q
 intro w1 q
 have F:=q.f1
 go_wp2_with fail
 refine(q.ne' (sz w1) (nk 17 (t.pos i) nl)).wy (mustP · _ (ask)) HB.out ?_
 clear q F
 intro w2 q
 have F:=q.f2
 go_wp2_with fail
 refine q.sv (maybeLifeP ·) ?_
 clear q F
 intro w3 s3 i3 hs3 hle3 m3 q
 have F:=q.f2
 go_wp2_with fail
 refine(q.p04 s3).iv (fnKindP ·) ?_
 clear q F
 intro w4 n4 i4 hle4 m4 q
 have F:=q.f2
 go_wp2_with fail
 refine(q.p02 n4).wn (mustP · _ (ask)) (fun w' hk hw=>⟨rfl,.inr ((q.p02 n4).thr hk (by unfold gFnT;exact wrt))⟩) ?_
 clear q F
 intro w5 m5 q
 have F:=q.f2
 go_wp2_with fail
 refine q.lf (fun _=>maybeP _) ?_
 clear q F
 intro w6 q
 have F:=q.f2
 go_wp2_with fail
 refine q.li (fun hr=>listP hr (mm:=fun n=>gList t (gG t n 0) ⟨#[41]⟩ n) (ask) (fun _=>ask) (fun _=>lit) ein70 (rowLike (t:=t) (en:=⟨#[41]⟩) (fun n=>gG_st _ _ _) |>.maybe (lit) (lit)).1 (rowLike (t:=t) (en:=⟨#[41]⟩) (fun n=>gG_st _ _ _) |>.maybe (lit) (lit)).2 (fun{w' j} hr' hj=>(by have h1:=hr'.lt;have h2:=q.go trivial;simpa using hT hr' (by omega)))) (fun w' p hk hw=>⟨rfl,.inr (q.thr hk (by unfold gFnT;exact wrt))⟩) ?_
 clear q F
 intro w7 ao7 cp7 vs7 i7 V7 hl7 m7 q
 have F:=q.f2
 have hl8:vs7.length≤6001:=by have:=hl7.out.2;have:=q.st.rd.lt;have:=h.good.few;omega
 go_wp2_with fail
 refine(q.p05 (.slice ao7 vs7.length cp7)).wn (mustP · _ (ask)) (fun w' hk hw=>⟨rfl,.inr ((q.p05 (.slice ao7 vs7.length cp7)).thr hk (by unfold gFnT;exact wrt))⟩) ?_
 clear q F
 intro w8 m8 q
 have F:=q.f2
 go_wp2_with fail
 go_region_law (first|(refine q.as (sz w9) (by omega) ?_;clear q F;intro w10 ao9 cp9 q;have F:=q.f2)|(replace q:=q.drew;go_simp;refine q.nd (fun hr=>hT hr (by have:=hr.lt;have:=q.go trivial;omega)) (fun w' p hk hw=>⟨rfl,.inr (q.thr hk (by unfold gFnT;exact wrt))⟩) ?_;clear q F;intro w9 x9 i9 y9 hl9 m9 q;have F:=q.f2))
 all_goals
  go_wp2_with fail
  go_light
  exact Mf.rt ((q.p05 (.slice ao9 (vs7.length+1) cp9)).fo 17 (t.pos i) n4 0 s3 (by simp;omega) hposI hs3) Tryz.results66 1 (by unfold gFnT;exact evt)
end Go.Proofs.YtdplogkmkgekdaaGreatDoor.Pj
namespace Go.Proofs.YtdplogkmkgekdaaGreatDoor.Pj
open Go.RowKit
theorem params_row {t:Tk} {T:GP (List Nr)} {o:List (List Nr)}:gParamsB t T o=gRowB t (gTyped t T 12 ⟨#[109,117,116]⟩) ⟨#[41]⟩ o:=by
 unfold gParamsB gRowB gTyped gMut seq
 simp only[bnd_assoc,ret_bnd]
theorem caps_row {t:Tk} {o:List (List Nr)}:gCapsB t o=gRowB t (gCap t) ⟨#[93]⟩ o:=by
 unfold gCapsB gRowB gCap seq
 simp only[bnd_assoc,ret_bnd]
theorem st_gTyped {t:Tk} {T:GP (List Nr)} {ki:Int} {wd:ByteArray} (h:Sy T):Sy (gTyped t T ki wd):=by
 unfold gTyped
 exact syt
theorem st_gCap {t:Tk}:Sy (gCap t):=by
 unfold gCap
 exact syt
theorem paramsRow {t:Tk} {T:Nat→GP (List Nr)} (h:∀n,Sy (T n)):RowLike t (fun n=>gTyped t (T n) 12 ⟨#[109,117,116]⟩) ⟨#[41]⟩ (fun n=>gParamsB t (T n)):=by
 have e:=rowLike (t:=t) (en:=⟨#[41]⟩) (X:=fun n=>gTyped t (T n) 12 ⟨#[109,117,116]⟩) (fun n=>st_gTyped (h n))
 have e2:(fun n=>gRowB t (gTyped t (T n) 12 ⟨#[109,117,116]⟩) ⟨#[41]⟩)=(fun n=>gParamsB t (T n)):=by
  funext n o
  exact params_row.symm
 rwa [e2] at e
theorem capsRow {t:Tk}:RowLike t (fun _=>gCap t) ⟨#[93]⟩ (fun _=>gCapsB t):=by
 have e:=rowLike (t:=t) (en:=⟨#[93]⟩) (X:=fun _=>gCap t) (fun _=>st_gCap)
 have e2:(fun _:Nat=>gRowB t (gCap t) ⟨#[93]⟩)=(fun _=>gCapsB t):=by
  funext n o
  exact caps_row.symm
 rwa [e2] at e
theorem ein200:Ein 200:=ein_of (f:=200) (fn:=Tryz.f200) (by kernel_rfl) (by kernel_rfl) rfl
theorem ein199:Ein 199:=ein_of (f:=199) (fn:=Tryz.f199) (by kernel_rfl) (by kernel_rfl) rfl
theorem ein138:Ein 138:=ein_of (f:=138) (fn:=Tryz.f138) (by kernel_rfl) (by kernel_rfl) rfl
theorem paramP {N:Nat} (hT:rdP 70 N (fun t n=>gG t n 0)) {w:World} {rb tb i:Nat} {cap:Cp} {t:Tk} (h:Rd w rb tb cap t i 0 0) (hN:t.len - i≤N+1):
 Calls Tryz.prog 200 #[.pointer (some ⟨rb,0,none⟩)] w (NodeP w rb tb cap t i True (fun n=>gTyped t (gG t n 0) 12 ⟨#[109,117,116]⟩)):=by
 have hl:=h.l
 have hposI:(0:Int)≤(t.pos i:Int)∧(t.pos i:Int)≤7000:=by have:=h.good.posb i;omega
 go_enter Tryz.func200,Tryz.ntmps200
 have q:=Mf.start h
 go_wp2_with fail
 refine(q.ne' (sz w) (zeroC)).nd (fun hr=>typedP hT hr hN 12 (ask)) (fun w' p hk hw=>⟨rfl,.inr ((q.ne' (sz w) (zeroC)).thr hk (hw))⟩) ?_
 clear q
 intro w1 x1 i1 y1 hl1 m1 q
 have F:=q.f1
 go_wp2_with fail
 go_light
 exact Mf.rt (q) Tryz.results200 0 (m1)
theorem fieldP {N:Nat} (hT:rdP 70 N (fun t n=>gG t n 0)) {w:World} {rb tb i:Nat} {cap:Cp} {t:Tk} (h:Rd w rb tb cap t i 0 0) (hN:t.len - i≤N+1):
 Calls Tryz.prog 138 #[.pointer (some ⟨rb,0,none⟩)] w (NodeP w rb tb cap t i True (fun n=>gTyped t (gG t n 0) 5 ⟨#[112,117,98]⟩)):=by
 have hl:=h.l
 have hposI:(0:Int)≤(t.pos i:Int)∧(t.pos i:Int)≤7000:=by have:=h.good.posb i;omega
 go_enter Tryz.func138,Tryz.ntmps138
 have q:=Mf.start h
 go_wp2_with fail
 refine(q.ne' (sz w) (zeroC)).nd (fun hr=>typedP hT hr hN 5 (ask)) (fun w' p hk hw=>⟨rfl,.inr ((q.ne' (sz w) (zeroC)).thr hk (hw))⟩) ?_
 clear q
 intro w1 x1 i1 y1 hl1 m1 q
 have F:=q.f1
 go_wp2_with fail
 go_light
 exact Mf.rt (q) Tryz.results138 0 (m1)
theorem paramsP {N:Nat} (hT:rdP 70 N (fun t n=>gG t n 0)) {w:World} {rb tb i:Nat} {cap:Cp} {t:Tk} (h:Rd w rb tb cap t i 0 0) (hN:t.len - i≤N+1):
 Calls Tryz.prog 158 #[.pointer (some ⟨rb,0,none⟩)] w (ListP w rb tb cap t i True (fun n=>gParams t (gG t n 0) n)):=by
 have hl:=h.l
 have hposI:(0:Int)≤(t.pos i:Int)∧(t.pos i:Int)≤7000:=by have:=h.good.posb i;omega
 go_enter Tryz.func158,Tryz.ntmps158
 have q:=Mf.start h
 go_wp2_with fail
 refine q.wn (mustP · _ (ask)) (fun w' hk hw=>⟨rfl,.inr (q.thr hk (by unfold gParams;exact wrt))⟩) ?_
 clear q
 intro w1 m1 q
 go_wp2_with fail
 refine q.lf (fun _=>maybeP _) ?_
 clear q
 intro w2 q
 go_wp2_with fail
 refine q.li (fun hr=>listP hr (mm:=fun n=>bnd (gEat t ⟨#[41]⟩) (fun b=>cond b (ret []) (loop (gParamsB t (gG t n 0)) n []))) (ask) (fun _=>ask) (fun _=>lit) ein200 (paramsRow (t:=t) (fun n=>gG_st _ _ _) |>.maybe (lit) (lit)).1 (paramsRow (t:=t) (fun n=>gG_st _ _ _) |>.maybe (lit) (lit)).2 (fun{w' j} hr' hj=>(by have h1:=hr'.lt;have h2:=q.go trivial;simpa using paramP hT hr' (by omega)))) (fun w' p hk hw=>⟨rfl,.inr (q.thr hk (by unfold gParams;exact Wr.sqd m1 hw))⟩) ?_
 clear q
 intro w3 ao3 cp3 vs3 i3 V3 hl3 m3 q
 go_wp2_with fail
 go_ret
 exact q.post (fun x=>x) (by have:=hl3.out.2;have:=q.go trivial;omega) (by unfold gParams;exact Ev.seq m1 m3)
theorem capsP {w:World} {rb tb i:Nat} {cap:Cp} {t:Tk} (h:Rd w rb tb cap t i 0 0):
 Calls Tryz.prog 157 #[.pointer (some ⟨rb,0,none⟩)] w (ListP w rb tb cap t i True (fun n=>gCaps t n)):=by
 have hl:=h.l
 have hposI:(0:Int)≤(t.pos i:Int)∧(t.pos i:Int)≤7000:=by have:=h.good.posb i;omega
 go_enter Tryz.func157,Tryz.ntmps157
 have q:=Mf.start h
 go_wp2_with fail
 refine q.wn (mustP · _ (ask)) (fun w' hk hw=>⟨rfl,.inr (q.thr hk (by unfold gCaps;exact wrt))⟩) ?_
 clear q
 intro w1 m1 q
 go_wp2_with fail
 refine q.lf (fun _=>maybeP _) ?_
 clear q
 intro w2 q
 go_wp2_with fail
 refine q.li (fun hr=>listP hr (mm:=fun n=>bnd (gEat t ⟨#[93]⟩) (fun b=>cond b (ret []) (loop (gCapsB t) n []))) (ask) (fun _=>ask) (fun _=>lit) ein199 (capsRow (t:=t) |>.maybe (lit) (lit)).1 (capsRow (t:=t) |>.maybe (lit) (lit)).2 (fun{w' j} hr' hj=>(by simpa using capP hr'))) (fun w' p hk hw=>⟨rfl,.inr (q.thr hk (by unfold gCaps;exact Wr.sqd m1 hw))⟩) ?_
 clear q
 intro w3 ao3 cp3 vs3 i3 V3 hl3 m3 q
 go_wp2_with fail
 go_ret
 exact q.post (fun x=>x) (by have:=hl3.out.2;have:=q.go trivial;omega) (by unfold gCaps;exact Ev.seq m1 m3)
end Go.Proofs.YtdplogkmkgekdaaGreatDoor.Pj
namespace Go.Proofs.YtdplogkmkgekdaaGreatDoor.Pj
open Go.RowKit
def gLooseB (t:Tk) (X:GP (List Nr)) (en:ByteArray) (o:List (List Nr)):GP (Bool × List (List Nr)):=bnd gOk (fun b=>bnd (cond b (gEat t en) (ret true)) (fun b2=>cond b2 (ret (false,o)) (bnd X (fun y=>bnd (gIs t 0 en) (fun b3=>cond b3 (ret (true,o++[y])) (seq (gWant t ⟨#[44]⟩) (ret (true,o++[y]))))))))
section
variable {t:Tk} {X:Nat→GP (List Nr)} {en:ByteArray}
theorem looseLike (hX:∀n,Sy (X n)):LooseLike t X en (fun n=>gLooseB t (X n) en) where
 f0 h:=Ev.bnd' ev_ok (Ev.bnd' (Ev.yes rfl (ev_eyes h)) (Ev.yes rfl Ev.ret'))
 f1 hs h1 h2:=Ev.bnd' ev_ok (Ev.bnd' (Ev.yes rfl (ev_eno hs)) (Ev.no rfl (Ev.bnd' h1 (Ev.bnd' ev_is (Ev.yes h2 Ev.ret')))))
 f2 hs h1 h2 h3:=Ev.bnd' ev_ok (Ev.bnd' (Ev.yes rfl (ev_eno hs)) (Ev.no rfl (Ev.bnd' h1 (Ev.bnd' ev_is (Ev.no h2 (Ev.seq (ev_wyes h3) Ev.ret'))))))
 f3 hs h1 h2 h3:=Wr.snd ev_ok (Wr.snd (Ev.yes rfl (ev_eno hs)) (Wr.no rfl (Wr.snd h1 (Wr.snd ev_is (Wr.no h2 (Wr.sq (wr_want h3) (fun _=>syt)))))))
 f4 hs h:=Wr.snd ev_ok (Wr.snd (Ev.yes rfl (ev_eno hs)) (Wr.no rfl (Wr.fst h (fun _ _=>syt))))
 sy n o:=by
  unfold gLooseB
  have:=hX n
  exact syt
end
theorem match_loose {t:Tk} {E Q:GP (List Nr)} {o:List (List Nr)}:gMatchB t E Q o=gLooseB t (gArm t E Q) ⟨#[125]⟩ o:=by
 unfold gMatchB gLooseB gArm seq
 simp only[bnd_assoc,ret_bnd]
theorem make_loose {t:Tk} {E:GP (List Nr)} {o:List (List Nr)}:gMakeB t E o=gLooseB t (gInit t E) ⟨#[125]⟩ o:=by
 unfold gMakeB gLooseB gInit seq
 simp only[bnd_assoc,ret_bnd]
theorem struct_loose {t:Tk} {T:GP (List Nr)} {o:List (List Nr)}:gStructB t T o=gLooseB t (gTyped t T 5 ⟨#[112,117,98]⟩) ⟨#[125]⟩ o:=by
 unfold gStructB gLooseB gTyped seq
 simp only[bnd_assoc,ret_bnd]
theorem st_gArm {t:Tk} {E Q:GP (List Nr)} (h1:Sy E) (h2:Sy Q):Sy (gArm t E Q):=by
 unfold gArm
 exact syt
theorem st_gInit {t:Tk} {E:GP (List Nr)} (h1:Sy E):Sy (gInit t E):=by
 unfold gInit
 exact syt
theorem matchLoose {t:Tk} {E Q:Nat→GP (List Nr)} (h1:∀n,Sy (E n)) (h2:∀n,Sy (Q n)):LooseLike t (fun n=>gArm t (E n) (Q n)) ⟨#[125]⟩ (fun n=>gMatchB t (E n) (Q n)):=by
 have e:=looseLike (t:=t) (en:=⟨#[125]⟩) (X:=fun n=>gArm t (E n) (Q n)) (fun n=>st_gArm (h1 n) (h2 n))
 have e2:(fun n=>gLooseB t (gArm t (E n) (Q n)) ⟨#[125]⟩)=(fun n=>gMatchB t (E n) (Q n)):=by
  funext n o
  exact match_loose.symm
 rwa [e2] at e
theorem makeLoose {t:Tk} {E:Nat→GP (List Nr)} (h1:∀n,Sy (E n)):LooseLike t (fun n=>gInit t (E n)) ⟨#[125]⟩ (fun n=>gMakeB t (E n)):=by
 have e:=looseLike (t:=t) (en:=⟨#[125]⟩) (X:=fun n=>gInit t (E n)) (fun n=>st_gInit (h1 n))
 have e2:(fun n=>gLooseB t (gInit t (E n)) ⟨#[125]⟩)=(fun n=>gMakeB t (E n)):=by
  funext n o
  exact make_loose.symm
 rwa [e2] at e
theorem structLoose {t:Tk} {T:Nat→GP (List Nr)} (h1:∀n,Sy (T n)):LooseLike t (fun n=>gTyped t (T n) 5 ⟨#[112,117,98]⟩) ⟨#[125]⟩ (fun n=>gStructB t (T n)):=by
 have e:=looseLike (t:=t) (en:=⟨#[125]⟩) (X:=fun n=>gTyped t (T n) 5 ⟨#[112,117,98]⟩) (fun n=>st_gTyped (h1 n))
 have e2:(fun n=>gLooseB t (gTyped t (T n) 5 ⟨#[112,117,98]⟩) ⟨#[125]⟩)=(fun n=>gStructB t (T n)):=by
  funext n o
  exact struct_loose.symm
 rwa [e2] at e
end Go.Proofs.YtdplogkmkgekdaaGreatDoor.Pj
namespace Go.Proofs.YtdplogkmkgekdaaGreatDoor.Pj
open Go.RowKit
def rdIf (N:Nat):Prop:=∀{w:World} {rb tb i:Nat} {cap:Cp} {t:Tk},Rd w rb tb cap t i 0 0→t.len - i≤N→isB t i 0 0 ⟨#[105,102]⟩=true→Calls Tryz.prog 71 #[.pointer (some ⟨rb,0,none⟩)] w (NodeP w rb tb cap t i True (fun n=>gG t n 4))
theorem ifP {N:Nat} (hE:rdP 81 N (fun t n=>gG t n 1)) (hB:rdP 75 N (fun t n=>gG t n 3)) (hJ:rdIf N) {w:World} {rb tb i:Nat} {cap:Cp} {t:Tk} (h:Rd w rb tb cap t i 0 0) (hN:t.len - i≤N+1) (hb:isB t i 0 0 ⟨#[105,102]⟩=true):
 Calls Tryz.prog 71 #[.pointer (some ⟨rb,0,none⟩)] w (NodeP w rb tb cap t i True (fun n=>gIf t (gG t n 1) (gG t n 3) (gG t n 4))):=by
 have hl:=h.l
 have hposI:(0:Int)≤(t.pos i:Int)∧(t.pos i:Int)≤7000:=by have:=h.good.posb i;omega
 have HB:=Hid_nx hb
 clear hb
 have hb:=HB.out
 go_enter Tryz.func71,Tryz.ntmps71
 have q:=Mf.start h
 go_wp2_with fail
 refine(q.ne' (sz w) (zeroC)).lf (nodeP · 33) ?_
 clear q
 intro w1 q
 have F:=q.f1
 go_wp2_with fail
 refine(q.ne' (sz w1) (nk 33 (t.pos i) nl)).wy (mustP · _ (ask)) HB.out ?_
 clear q F
 intro w2 q
 have F:=q.f2
 go_wp2_with fail
 refine q.nd (fun hr=>hE hr (by have:=hr.lt;have:=q.go trivial;omega)) (fun w' p hk hw=>⟨rfl,.inr (q.thr hk (by unfold gIf;exact wrt))⟩) ?_
 clear q F
 intro w3 x3 i3 y3 hl3 m3 q
 have F:=q.f2
 go_wp2_with fail
 refine q.nd (fun hr=>hB hr (by have:=hr.lt;have:=q.go trivial;omega)) (fun w' p hk hw=>⟨rfl,.inr (q.thr hk (by unfold gIf;exact wrt))⟩) ?_
 clear q F
 intro w4 x4 i4 y4 hl4 m4 q
 have F:=q.f2
 go_wp2_with fail
 refine(((q.swap).p05 (sl (sz w4) 2)).m2 (sz w4)).et (skipP · _ (ask)) ?_
 clear q F
 intro w5 b5 i5 hE5 m5 q
 have F:=q.f2
 go_wp2_with fail
 ·go_wp2_with fail
  go_light
  exact Mf.rt (q.fo 33 (t.pos i) 0 0 ⟨#[]⟩ (by simp) hposI) Tryz.results71 1 (by unfold gIf;exact evt)
 ·go_wp2_with fail
  refine q.lf (isP · _ (ask)) ?_
  clear q F
  intro w6 q
  have F:=q.f2
  go_wp2_with fail
  ·go_wp2_with fail
   go_region_law (first|(refine q.as (sz w7) (by simp) ?_;clear q F;intro w8 ao7 cp7 q;have F:=q.f2)|(replace q:=q.drew;go_simp;refine q.nd (fun hr=>hJ hr (by have:=hr.lt;have:=q.go trivial;omega) ‹_›) (fun w' p hk hw=>⟨rfl,.inr (q.thr hk (by have hw2:Wr (fun n=>bnd (cond (isB t i5 0 0 ⟨#[105,102]⟩) (gG t n 4) (gG t n 3)) (fun z=>ret (nd 33 (t.pos i) 0 0 E0 [y3,y4,z]))) ⟨i5,0,0⟩ p:=Wr.fst (Wr.yes ‹_› hw) (fun _ _=>syt);unfold gIf;exact wrt))⟩) ?_;clear q F;intro w7 x7 i7 y7 hl7 m7 q;have F:=q.f2))
   all_goals
    go_wp2_with fail
    go_light
    exact Mf.rt ((q.p05 (.slice ao7 (2+1) cp7)).fo 33 (t.pos i) 0 0 ⟨#[]⟩ (by simp) hposI) Tryz.results71 1 (by unfold gIf;exact evt)
  ·go_wp2_with fail
   go_region_law (first|(refine q.as (sz w9) (by simp) ?_;clear q F;intro w10 ao7 cp7 q;have F:=q.f2)|(replace q:=q.drew;go_simp;refine q.nd (fun hr=>hB hr (by have:=hr.lt;have:=q.go trivial;omega)) (fun w' p hk hw=>⟨rfl,.inr (q.thr hk (by have hw2:Wr (fun n=>bnd (cond (isB t i5 0 0 ⟨#[105,102]⟩) (gG t n 4) (gG t n 3)) (fun z=>ret (nd 33 (t.pos i) 0 0 E0 [y3,y4,z]))) ⟨i5,0,0⟩ p:=Wr.fst (Wr.no ‹_› hw) (fun _ _=>syt);unfold gIf;exact wrt))⟩) ?_;clear q F;intro w9 x7 i7 y7 hl7 m7 q;have F:=q.f2))
   all_goals
    go_wp2_with fail
    go_light
    exact Mf.rt ((q.p05 (.slice ao7 (2+1) cp7)).fo 33 (t.pos i) 0 0 ⟨#[]⟩ (by simp) hposI) Tryz.results71 1 (by unfold gIf;exact evt)
end Go.Proofs.YtdplogkmkgekdaaGreatDoor.Pj
namespace Go.Proofs.YtdplogkmkgekdaaGreatDoor.Pj
open Go.RowKit
def gBoundX (t:Tk) (lives:Bool) (fu:Nat):GP (List Nr):=bnd (gKind t 0 4) (fun b2=>cond (lives||b2) (gLife t) (gPathNode t fu))
theorem bounds_x {t:Tk} {lives:Bool} {fu:Nat} {o:List (List Nr)}:gBoundsB t lives fu o=bnd gOk (fun b1=>cond b1 (bnd (gBoundX t lives fu) (fun y=>bnd (gEat t ⟨#[43]⟩) (fun b3=>cond b3 (ret (true,o++[y])) (ret (false,o++[y]))))) (ret (false,o))):=by
 unfold gBoundsB gBoundX
 simp only[bnd_assoc,ret_bnd]
theorem st_gBoundX {t:Tk} {lives:Bool} {fu:Nat}:Sy (gBoundX t lives fu):=by
 unfold gBoundX
 exact syt
section
variable {t:Tk} {lives:Bool} {i j:Nat} {y:List Nr} {o:List (List Nr)} {p:Int}
theorem bd_stop (h1:Ev (fun n=>gBoundX t lives n) ⟨i,0,0⟩ (y,⟨j,0,0⟩)) (h2:isB t j 0 0 ⟨#[43]⟩=false):Ev (fun n=>gBoundsB t lives n o) ⟨i,0,0⟩ ((false,o++[y]),⟨j,0,0⟩):=by
 simp only[bounds_x]
 exact Ev.bnd' ev_ok (Ev.yes rfl (Ev.bnd' h1 (Ev.bnd' (ev_eno h2) (Ev.no rfl Ev.ret'))))
theorem bd_on (h1:Ev (fun n=>gBoundX t lives n) ⟨i,0,0⟩ (y,⟨j,0,0⟩)) (h2:isB t j 0 0 ⟨#[43]⟩=true):Ev (fun n=>gBoundsB t lives n o) ⟨i,0,0⟩ ((true,o++[y]),⟨j+1,0,0⟩):=by
 simp only[bounds_x]
 exact Ev.bnd' ev_ok (Ev.yes rfl (Ev.bnd' h1 (Ev.bnd' (ev_eyes h2) (Ev.yes rfl Ev.ret'))))
theorem bd_thr (h1:Wr (fun n=>gBoundX t lives n) ⟨i,0,0⟩ p):Wr (fun n=>gBoundsB t lives n o) ⟨i,0,0⟩ p:=by
 simp only[bounds_x]
 exact Wr.snd ev_ok (Wr.yes rfl (Wr.fst h1 (fun _ _=>syt)))
theorem bd_sy (n:Nat) (o:List (List Nr)):Sy (gBoundsB t lives n o):=by
 rw[bounds_x]
 have:=st_gBoundX (t:=t) (lives:=lives) (fu:=n)
 exact syt
theorem bounds_lp {en:ByteArray} (hem:en.toList.isEmpty=true) {F:List (List Nr)} {r:(List (List Nr) × Nat) ⊕ Int} (h:PLoop t (fun n=>gBoundX t lives n) ⟨#[43]⟩ en false j F r):∀(i0:Nat) (o:List (List Nr)) (y:List Nr),F=o++[y]→Ev (fun n=>gBoundX t lives n) ⟨i0,0,0⟩ (y,⟨j,0,0⟩)→(∀G j',r=.inl (G,j')→EvL (fun n=>gBoundsB t lives n) o ⟨i0,0,0⟩ (G,⟨j',0,0⟩))∧∀p,r=.inr p→WrL (fun n=>gBoundsB t lives n) o ⟨i0,0,0⟩ p:=by
 induction h using PLoop.ind with
 |stop h0 h1 h2=>rw[hem] at h0;exact absurd h0 (by decide)
 |stop0 h0 h1=>
  intro i0 o y hF hy
  refine⟨fun G j' e=>?_,fun p e=>by simp at e⟩
  obtain⟨rfl,rfl⟩:=Prod.mk.inj (Sum.inl.inj e)
  rw[hF]
  exact EvL.stop (bd_stop hy h1)
 |thrEnd h0 h1 h2=>rw[hem] at h0;exact absurd h0 (by decide)
 |endLoose h0=>exact absurd h0 (by decide)
 |next h1 h2 h3 h4 ih=>
  intro i0 o y hF hy
  obtain⟨k1,k2⟩:=ih _ (o++[y]) _ (by rw[hF]) h3
  exact⟨fun G j' e=>EvL.on (bd_on hy h1) (k1 G j' e),fun p e=>WrL.on (bd_on hy h1) (k2 p e)⟩
 |thr h1 h2 h3=>
  intro i0 o y hF hy
  refine⟨fun G j' e=>by simp at e,fun p e=>?_⟩
  obtain rfl:=Sum.inr.inj e
  exact WrL.on (bd_on hy h1) (WrL.here (bd_thr h3) bd_sy)
theorem bounds_run {en:ByteArray} (hem:en.toList.isEmpty=true) {r:(List (List Nr) × Nat) ⊕ Int} (h:PRun t (fun n=>gBoundX t lives n) ⟨#[43]⟩ en false false i r):(∀G j',r=.inl (G,j')→EvL (fun n=>gBoundsB t lives n) [] ⟨i,0,0⟩ (G,⟨j',0,0⟩))∧∀p,r=.inr p→WrL (fun n=>gBoundsB t lives n) [] ⟨i,0,0⟩ p:=by
 cases h using PRun.ind with
 |empty h1 h2=>exact absurd h1 (by decide)
 |some h1 h2 h3=>exact bounds_lp hem h3 i [] _ rfl h2
 |thr h1 h2=>
  refine⟨fun G j' e=>by simp at e,fun p e=>?_⟩
  obtain rfl:=Sum.inr.inj e
  exact WrL.here (bd_thr h2) bd_sy
end
end Go.Proofs.YtdplogkmkgekdaaGreatDoor.Pj
namespace Go.Proofs.YtdplogkmkgekdaaGreatDoor.Pj
open Go.RowKit
theorem pathP2 {w:World} {rb tb i:Nat} {cap:Cp} {t:Tk} (h:Rd w rb tb cap t i 0 0) (most:Nat) (hm1:1≤most) (hm:most≤3):Calls Tryz.prog 154 #[.pointer (some ⟨rb,0,none⟩),.int .i64 most] w fun e w'=>(∃x i',e=.returned (.string x)∧x.size≤20000∧Nx w rb tb cap t i 0 True w' i' 0 0∧Ev (fun fu=>gPath t fu most) ⟨i,0,0⟩ (x,⟨i',0,0⟩))∨ThrP w rb ⟨i,0,0⟩ (fun fu=>gPath t fu most) e w':=(pathP h most hm1 hm).mono fun e w' p=>by
 rcases p with⟨x,i',h1,h2,h3,_,h4⟩|p
 ·exact .inl ⟨x,i',h1,h2,h3,h4⟩
 ·exact .inr p
theorem ein195:Ein 195:=ein_of (f:=195) (fn:=Tryz.f195) (by kernel_rfl) (by kernel_rfl) rfl
theorem ein220:Ein 220:=ein_of (f:=220) (fn:=Tryz.f220) (by kernel_rfl) (by kernel_rfl) rfl
theorem boundP {w:World} {rb tb i:Nat} {cap:Cp} {t:Tk} (h:Rd w rb tb cap t i 0 0):
 Calls Tryz.prog 220 #[.pointer (some ⟨rb,0,none⟩)] w (NodeP w rb tb cap t i True (fun n=>gBoundX t false n)):=by
 have hl:=h.l
 have hposI:(0:Int)≤(t.pos i:Int)∧(t.pos i:Int)≤7000:=by have:=h.good.posb i;omega
 have hfd:=fld67_0
 cases hk:kindB t i 0 0 4
 ·have hk0:((t.kind i:Int)==4)=false:=(kindB_eq h.lt 4).symm.trans hk
  have HK:=Hid_nx hk
  clear hk
  go_enter Tryz.func220,Tryz.ntmps220
  have q:=Mf.start h
  go_wp2_with fail
  refine(q.ne' (sz w) (zeroC)).lf (tokP ·) ?_
  clear q
  intro w1 q
  have F:=q.f1
  go_wp2_with fail
  refine q.lf (nodeP · 18) ?_
  clear q F
  intro w2 q
  have F:=q.f1
  go_wp2_with fail
  refine(q.ne' (sz w2) (nk 18 (t.pos i) nl)).nm (pathP2 · 2 (by decide) (by decide)) (fun w' p hk hw=>⟨rfl,.inr ((q.ne' (sz w2) (nk 18 (t.pos i) nl)).thr hk (by unfold gBoundX gPathNode;exact Wr.snd ev_kind (Wr.no (or_n rfl HK.out) (Wr.snd ev_at (Wr.fst hw (fun _ _=>syt))))))⟩) ?_
  clear q F
  intro w3 s3 i3 hs3 hl3 m3 q
  have F:=q.f2
  go_wp2_with fail
  go_light
  exact Mf.rt ((q.p04 s3).lk 18 (t.pos i) 0 0 s3 hposI hs3) Tryz.results220 1 (by unfold gBoundX gPathNode;exact Ev.bnd' ev_kind (Ev.no (or_n rfl HK.out) (Ev.bnd' ev_at (Ev.bnd' m3 Ev.ret'))))
 ·have hk0:((t.kind i:Int)==4)=true:=(kindB_eq h.lt 4).symm.trans hk
  have HK:=Hid_nx hk
  clear hk
  go_enter Tryz.func220,Tryz.ntmps220
  have q:=Mf.start h
  go_wp2_with fail
  refine(q.ne' (sz w) (zeroC)).lf (tokP ·) ?_
  clear q
  intro w4 q
  have F:=q.f1
  go_wp2_with fail
  refine q.nd (fun hr=>lifeP hr) (fun w' p hk hw=>⟨rfl,.inr (q.thr hk (by unfold gBoundX;exact Wr.snd ev_kind (Wr.yes (or_r HK.out) hw)))⟩) ?_
  clear q F
  intro w5 x2 i2 y2 hl2 m2 q
  have F:=q.f1
  go_wp2_with fail
  go_light
  exact Mf.rt (q) Tryz.results220 0 (by unfold gBoundX;exact Ev.bnd' ev_kind (Ev.yes (or_r HK.out) m2))
end Go.Proofs.YtdplogkmkgekdaaGreatDoor.Pj
