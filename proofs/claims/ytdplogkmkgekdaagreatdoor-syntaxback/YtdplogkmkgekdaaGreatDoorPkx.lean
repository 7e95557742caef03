/- The project's parser: return, types behind a path. -/
import Derived.Test.YtdplogkmkgekdaaGreatDoorPkt
import Derived.Test.YtdplogkmkgekdaaGreatDoorPkb
import Derived.Test.YtdplogkmkgekdaaGreatDoorPkj
import Derived.Test.YtdplogkmkgekdaaGreatDoorTypes
set_option linter.all false
set_option maxRecDepth 100000
set_option maxHeartbeats 4000000
namespace Go.Proofs.YtdplogkmkgekdaaGreatDoor.Pj
open Go.RowKit
section
variable {w:World} {rb tb i:Nat} {cap:Cp} {t:Tk}
theorem bU {α β γ:Type} (m:GP α) (f:α→GP β) (g:β→GP γ):bnd (bnd m f) g=bnd m (fun x=>bnd (f x) g):=by
 funext s
 unfold bnd
 cases m s<;>rfl
theorem rY {α β:Type} (b:Bool) (x y:GP α) (g:α→GP β):bnd (cond b x y) g=cond b (bnd x g) (bnd y g):=by cases b<;>rfl
theorem gB {α β:Type} (x:α) (g:α→GP β):bnd (ret x) g=g x:=rfl
theorem Ev.cg {α:Type} {m m':Nat→GP α} {s s':Rs} {r:α × Rs} (h:Ev m s r) (e:∀n,m' n s'=m n s):Ev m' s' r:=by
 obtain⟨a,ha⟩:=h
 exact⟨a,fun n hn=>(e n).trans (ha n hn)⟩
theorem Wr.cg {α:Type} {m m':Nat→GP α} {s s':Rs} {p:Int} (h:Wr m s p) (e:∀n,m' n s'=m n s):Wr m' s' p:=by
 obtain⟨a,ha⟩:=h
 exact⟨a,fun n hn r hr=>ha n hn r ((e n).symm.trans hr)⟩
theorem I5 {t:Tk} {T:GP (List Nr)} {i:Nat} (h:au t i 0 0 ⟨#[38,38]⟩=true):pI t T ⟨i,0,0⟩=bnd (tO t T (t.pos i+1)) (fun y=>ret (nd 16 (t.pos i) 0 0 E0 [y])) ⟨i+1,0,0⟩:=by
 unfold pI tO
 simp only[bU,gB]
 have e:(bnd (dh t) (fun p=>bnd (bY t 0 ⟨#[38,38]⟩) (fun d=>seq (dK 1) (bnd (fB t 0 4) (fun b=>bnd (cond b (dW t) (ret E0)) (fun s=>bnd (jC t) (fun n=>bnd T (fun y=>cond d (ret (nd 16 p 0 0 E0 [nd 16 (p+1) n 0 s [y]])) (ret (nd 16 p n 0 s [y]))))))))) ⟨i,0,0⟩:Option _)=(bnd (fB t 0 4) (fun b=>bnd (cond b (dW t) (ret E0)) (fun s=>bnd (jC t) (fun n=>bnd T (fun y=>cond (au t i 0 0 ⟨#[38,38]⟩) (ret (nd 16 (t.pos i) 0 0 E0 [nd 16 (t.pos i+1) n 0 s [y]])) (ret (nd 16 (t.pos i) n 0 s [y]))))))) ⟨i+1,0,0⟩:=rfl
 rw[e,h]
 rfl
theorem I6 {t:Tk} {T:GP (List Nr)} {i:Nat} (h:au t i 0 0 ⟨#[38,38]⟩=false):pI t T ⟨i,0,0⟩=tO t T (t.pos i) ⟨i+1,0,0⟩:=by
 unfold pI tO
 have e:(bnd (dh t) (fun p=>bnd (bY t 0 ⟨#[38,38]⟩) (fun d=>seq (dK 1) (bnd (fB t 0 4) (fun b=>bnd (cond b (dW t) (ret E0)) (fun s=>bnd (jC t) (fun n=>bnd T (fun y=>cond d (ret (nd 16 p 0 0 E0 [nd 16 (p+1) n 0 s [y]])) (ret (nd 16 p n 0 s [y]))))))))) ⟨i,0,0⟩:Option _)=(bnd (fB t 0 4) (fun b=>bnd (cond b (dW t) (ret E0)) (fun s=>bnd (jC t) (fun n=>bnd T (fun y=>cond (au t i 0 0 ⟨#[38,38]⟩) (ret (nd 16 (t.pos i) 0 0 E0 [nd 16 (t.pos i+1) n 0 s [y]])) (ret (nd 16 (t.pos i) n 0 s [y]))))))) ⟨i+1,0,0⟩:=rfl
 rw[e,h]
 rfl
def xP (t:Tk) (T:GP (List Nr)) (p:Int) (fu:Nat):GP (List Nr):=bnd (fB t 0 4) (fun k=>bnd (cond (k) (dW t) (ret (E0))) (fun s=>bnd (jR t) (fun n=>seq (aM t ⟨#[40]⟩) (bnd (fC t T ⟨#[41]⟩ fu) (fun ks=>seq (aM t ⟨#[45,62]⟩) (bnd (T) (fun y=>ret (nd 17 p n 0 s (ks++[y])))))))))
theorem Pm {N:Nat} (hT:bH 70 N (fun t n=>gG t n 0)) {w:World} {rb tb i:Nat} {cap:Cp} {t:Tk} (h:Rd w rb tb cap t i 0 0) (hN:t.len - i≤N+1) (hd:au t i 0 0 ⟨#[38,38]⟩=false→au t i 0 0 ⟨#[38]⟩=true):
 Calls Tryz.prog 67 #[.pointer (some ⟨rb,0,none⟩)] w (aP w rb tb cap t i True (fun n=>pI t (gG t n 0))):=by
 have hl:=h.l
 have aL:=h.eP
 have lZ:(0:Int)≤(t.pos i:Int)+1∧(t.pos i:Int)+1≤7000:=by have:=h.good.qg i;omega
 have jT:=CO
 have HD:=aD hd
 clear hd
 go_enter Tryz.func67,Tryz.ntmps67
 have q:=Mf.start h
 go_wp2_with fail
 refine(q.ne' (sz w) (aJ)).lf (jD ·) ?_
 clear q
 intro w1 q
 have F:=q.f1
 go_wp2_with fail
 refine q.et (cO · _ (ask)) ?_
 clear q F
 intro w2 b2 i2 hE2 m2 q
 have F:=q.f1
 go_wp2_with fail
 ·have hb:=hE2.jE.symm.trans ‹_›
  obtain rfl:=(hE2.yes ‹_›).1
  go_wp2_with fail
  refine q.nd (fun hr=>UH hT hr (by have:=hr.lt;omega) lZ) (fun w' p hk hw=>⟨rfl,.inr (q.aR hk (Wr.cg (m:=fun n=>bnd (tO t (gG t n 0) (t.pos i+1)) (fun y=>ret (nd 16 (t.pos i) 0 0 E0 [y]))) (Wr.fst hw (fun _ _=>Sy.ret)) (fun n=>I5 hb)))⟩) ?_
  clear q F
  intro w3 x3 i3 y3 hl3 m3 q
  have F:=q.f1
  go_wp2_with fail
  go_light
  refine Mf.rt (q.l1 (sz w3) 16 (t.pos i) 0 0 ⟨#[]⟩ aL) Tryz.results67 0 (Ev.cg (m:=fun n=>bnd (tO t (gG t n 0) (t.pos i+1)) (fun y=>ret (nd 16 (t.pos i) 0 0 E0 [y]))) (Ev.ak m3 Ev.ret') (fun n=>I5 hb)) ?_
  simp[bC,World.setCell_alloc_past,F,Nat.lt_succ_of_lt]
 ·obtain rfl:i=i2:=(hE2.no ‹_›).symm
  have hb:=hE2.jE.symm.trans ‹_›
  go_wp2_with fail
  refine q.wy (dw · _ (ask)) (HD.out hb) ?_
  clear q F
  intro w4 q
  have F:=q.f1
  go_wp2_with fail
  refine q.nd (fun hr=>UH hT hr (by have:=hr.lt;omega) aL) (fun w' p hk hw=>⟨rfl,.inr (q.aR hk (Wr.cg hw (fun n=>I6 hb)))⟩) ?_
  clear q F
  intro w5 x3 i3 y3 hl3 m3 q
  have F:=q.f1
  go_wp2_with fail
  go_light
  exact Mf.rt (q) Tryz.results67 0 (Ev.cg m3 (fun n=>I6 hb))
theorem aeY {N:Nat} (hT:bH 70 N (fun t n=>gG t n 0)) {w:World} {rb tb i:Nat} {cap:Cp} {t:Tk} (h:Rd w rb tb cap t i 0 0) (hN:t.len - i≤N+1) (hb:au t i 0 0 ⟨#[102,110]⟩=true):
 Calls Tryz.prog 66 #[.pointer (some ⟨rb,0,none⟩)] w (aP w rb tb cap t i True (fun n=>seq (dK 1) (xP t (gG t n 0) (t.pos i) n))):=by
 have hl:=h.l
 have aL:=h.eP
 have HB:=aD hb
 clear hb
 go_enter Tryz.func66,Tryz.ntmps66
 have q:=Mf.start h
 go_wp2_with fail
 refine(q.ne' (sz w) (aJ)).lf (dx · 17) ?_
 clear q
 intro w1 q
 have F:=q.f1
 go_wp2_with fail
 refine(q.ne' (sz w1) (nk 17 (t.pos i) nl)).wy (dw · _ (ask)) HB.out ?_
 clear q F
 intro w2 q
 have F:=q.f2
 go_wp2_with fail
 refine q.sv (Ea ·) ?_
 clear q F
 intro w3 s3 i3 hs3 hle3 m3 q
 have F:=q.f2
 go_wp2_with fail
 refine(q.jm s3).iv (LZ ·) ?_
 clear q F
 intro w4 n4 i4 hle4 m4 q
 have F:=q.f2
 go_wp2_with fail
 refine(q.pV n4).wn (dw · _ (ask)) (fun w' hk hw=>⟨rfl,.inr ((q.pV n4).aR hk (by unfold xP;exact wrt))⟩) ?_
 clear q F
 intro w5 m5 q
 have F:=q.f2
 go_wp2_with fail
 refine q.lf (fun _=>Av _) ?_
 clear q F
 intro w6 q
 have F:=q.f2
 go_wp2_with fail
 refine q.li (fun hr=>oN hr (mm:=fun n=>fC t (gG t n 0) ⟨#[41]⟩ n) (ask) (fun _=>ask) (fun _=>lit) Hw (mH (t:=t) (en:=⟨#[41]⟩) (fun n=>dM _ _ _) |>.maybe (lit) (lit)).1 (mH (t:=t) (en:=⟨#[41]⟩) (fun n=>dM _ _ _) |>.maybe (lit) (lit)).2 (fun{w' j} hr' hj=>(by have h1:=hr'.lt;have h2:=q.go trivial;simpa using hT hr' (by omega)))) (fun w' p hk hw=>⟨rfl,.inr (q.aR hk (by unfold xP;exact wrt))⟩) ?_
 clear q F
 intro w7 yt yu UJ i7 V7 zZ m7 q
 have F:=q.f2
 have Pn:UJ.length≤6001:=by have:=zZ.out.2;have:=q.st.rd.lt;have:=h.good.few;omega
 go_wp2_with fail
 refine(q.fE (.slice yt UJ.length yu)).wn (dw · _ (ask)) (fun w' hk hw=>⟨rfl,.inr ((q.fE (.slice yt UJ.length yu)).aR hk (by unfold xP;exact wrt))⟩) ?_
 clear q F
 intro w8 m8 q
 have F:=q.f2
 go_wp2_with fail
 go_region_law (first|(refine q.as (sz w9) (by omega) ?_;clear q F;intro I7 vN vO q;have F:=q.f2)|(replace q:=q.drew;go_simp;refine q.nd (fun hr=>hT hr (by have:=hr.lt;have:=q.go trivial;omega)) (fun w' p hk hw=>⟨rfl,.inr (q.aR hk (by unfold xP;exact wrt))⟩) ?_;clear q F;intro w9 x9 i9 y9 Cr m9 q;have F:=q.f2))
 all_goals
  go_wp2_with fail
  go_light
  exact Mf.rt ((q.fE (.slice vN (UJ.length+1) vO)).fo 17 (t.pos i) n4 0 s3 (by simp;omega) aL hs3) Tryz.results66 1 (by unfold xP;exact bS)
end
section
variable {w:World} {rb tb i:Nat} {cap:Cp} {t:Tk}
theorem NC {t:Tk} {T:GP (List Nr)} {o:List (List Nr)}:mV t T o=gH t (iL t T 12 ⟨#[109,117,116]⟩) ⟨#[41]⟩ o:=by
 unfold mV gH iL jC seq
 simp only[bU,gB]
theorem RU {t:Tk} {o:List (List Nr)}:rA t o=gH t (ni t) ⟨#[93]⟩ o:=by
 unfold rA gH ni seq
 simp only[bU,gB]
theorem Aw {t:Tk} {T:GP (List Nr)} {ki:Int} {wd:ByteArray} (h:Sy T):Sy (iL t T ki wd):=by
 unfold iL
 exact aA
theorem Xu {t:Tk}:Sy (ni t):=by
 unfold ni
 exact aA
theorem Gb {t:Tk} {T:Nat→GP (List Nr)} (h:∀n,Sy (T n)):o7 t (fun n=>iL t (T n) 12 ⟨#[109,117,116]⟩) ⟨#[41]⟩ (fun n=>mV t (T n)):=by
 have e:=mH (t:=t) (en:=⟨#[41]⟩) (X:=fun n=>iL t (T n) 12 ⟨#[109,117,116]⟩) (fun n=>Aw (h n))
 have e2:(fun n=>gH t (iL t (T n) 12 ⟨#[109,117,116]⟩) ⟨#[41]⟩)=(fun n=>mV t (T n)):=by
  funext n o
  exact NC.symm
 rwa [e2] at e
theorem L6 {t:Tk}:o7 t (fun _=>ni t) ⟨#[93]⟩ (fun _=>rA t):=by
 have e:=mH (t:=t) (en:=⟨#[93]⟩) (X:=fun _=>ni t) (fun _=>Xu)
 have e2:(fun _:Nat=>gH t (ni t) ⟨#[93]⟩)=(fun _=>rA t):=by
  funext n o
  exact RU.symm
 rwa [e2] at e
theorem aaU:fZ 200:=dN (f:=200) (fn:=Tryz.f200) (by kernel_rfl) (by kernel_rfl) rfl
theorem aaV:fZ 199:=dN (f:=199) (fn:=Tryz.f199) (by kernel_rfl) (by kernel_rfl) rfl
theorem aaW:fZ 138:=dN (f:=138) (fn:=Tryz.f138) (by kernel_rfl) (by kernel_rfl) rfl
theorem aaX {N:Nat} (hT:bH 70 N (fun t n=>gG t n 0)) {w:World} {rb tb i:Nat} {cap:Cp} {t:Tk} (h:Rd w rb tb cap t i 0 0) (hN:t.len - i≤N+1):
 Calls Tryz.prog 200 #[.pointer (some ⟨rb,0,none⟩)] w (aP w rb tb cap t i True (fun n=>iL t (gG t n 0) 12 ⟨#[109,117,116]⟩)):=by
 have hl:=h.l
 have aL:=h.eP
 go_enter Tryz.func200,Tryz.ntmps200
 have q:=Mf.start h
 go_wp2_with fail
 refine(q.ne' (sz w) (aJ)).nd (fun hr=>Pk hT hr hN 12 (ask)) (fun w' p hk hw=>⟨rfl,.inr ((q.ne' (sz w) (aJ)).aR hk (hw))⟩) ?_
 clear q
 intro w1 x1 i1 y1 hl1 m1 q
 have F:=q.f1
 go_wp2_with fail
 go_light
 exact Mf.rt (q) Tryz.results200 0 (m1)
theorem aaY {N:Nat} (hT:bH 70 N (fun t n=>gG t n 0)) {w:World} {rb tb i:Nat} {cap:Cp} {t:Tk} (h:Rd w rb tb cap t i 0 0) (hN:t.len - i≤N+1):
 Calls Tryz.prog 138 #[.pointer (some ⟨rb,0,none⟩)] w (aP w rb tb cap t i True (fun n=>iL t (gG t n 0) 5 ⟨#[112,117,98]⟩)):=by
 have hl:=h.l
 have aL:=h.eP
 go_enter Tryz.func138,Tryz.ntmps138
 have q:=Mf.start h
 go_wp2_with fail
 refine(q.ne' (sz w) (aJ)).nd (fun hr=>Pk hT hr hN 5 (ask)) (fun w' p hk hw=>⟨rfl,.inr ((q.ne' (sz w) (aJ)).aR hk (hw))⟩) ?_
 clear q
 intro w1 x1 i1 y1 hl1 m1 q
 have F:=q.f1
 go_wp2_with fail
 go_light
 exact Mf.rt (q) Tryz.results138 0 (m1)
theorem L8 {N:Nat} (hT:bH 70 N (fun t n=>gG t n 0)) {w:World} {rb tb i:Nat} {cap:Cp} {t:Tk} (h:Rd w rb tb cap t i 0 0) (hN:t.len - i≤N+1):
 Calls Tryz.prog 158 #[.pointer (some ⟨rb,0,none⟩)] w (rO w rb tb cap t i True (fun n=>iw t (gG t n 0) n)):=by
 have hl:=h.l
 have aL:=h.eP
 go_enter Tryz.func158,Tryz.ntmps158
 have q:=Mf.start h
 go_wp2_with fail
 refine q.wn (dw · _ (ask)) (fun w' hk hw=>⟨rfl,.inr (q.aR hk (by unfold iw;exact wrt))⟩) ?_
 clear q
 intro w1 m1 q
 go_wp2_with fail
 refine q.lf (fun _=>Av _) ?_
 clear q
 intro w2 q
 go_wp2_with fail
 refine q.li (fun hr=>oN hr (mm:=fun n=>bnd (aY t ⟨#[41]⟩) (fun b=>cond b (ret []) (loop (mV t (gG t n 0)) n []))) (ask) (fun _=>ask) (fun _=>lit) aaU (Gb (t:=t) (fun n=>dM _ _ _) |>.maybe (lit) (lit)).1 (Gb (t:=t) (fun n=>dM _ _ _) |>.maybe (lit) (lit)).2 (fun{w' j} hr' hj=>(by have h1:=hr'.lt;have h2:=q.go trivial;simpa using aaX hT hr' (by omega)))) (fun w' p hk hw=>⟨rfl,.inr (q.aR hk (by unfold iw;exact Wr.o8 m1 hw))⟩) ?_
 clear q
 intro w3 Ay Az vs3 i3 V3 hl3 m3 q
 go_wp2_with fail
 go_ret
 exact q.post (fun x=>x) (by have:=hl3.out.2;have:=q.go trivial;omega) (by unfold iw;exact Ev.seq m1 m3)
theorem UK (h:Rd w rb tb cap t i 0 0):
 Calls Tryz.prog 157 #[.pointer (some ⟨rb,0,none⟩)] w (rO w rb tb cap t i True (fun n=>jZ t n)):=by
 have hl:=h.l
 have aL:=h.eP
 go_enter Tryz.func157,Tryz.ntmps157
 have q:=Mf.start h
 go_wp2_with fail
 refine q.wn (dw · _ (ask)) (fun w' hk hw=>⟨rfl,.inr (q.aR hk (by unfold jZ;exact wrt))⟩) ?_
 clear q
 intro w1 m1 q
 go_wp2_with fail
 refine q.lf (fun _=>Av _) ?_
 clear q
 intro w2 q
 go_wp2_with fail
 refine q.li (fun hr=>oN hr (mm:=fun n=>bnd (aY t ⟨#[93]⟩) (fun b=>cond b (ret []) (loop (rA t) n []))) (ask) (fun _=>ask) (fun _=>lit) aaV (L6 (t:=t) |>.maybe (lit) (lit)).1 (L6 (t:=t) |>.maybe (lit) (lit)).2 (fun{w' j} hr' hj=>(by simpa using aeX hr'))) (fun w' p hk hw=>⟨rfl,.inr (q.aR hk (by unfold jZ;exact Wr.o8 m1 hw))⟩) ?_
 clear q
 intro w3 Ay Az vs3 i3 V3 hl3 m3 q
 go_wp2_with fail
 go_ret
 exact q.post (fun x=>x) (by have:=hl3.out.2;have:=q.go trivial;omega) (by unfold jZ;exact Ev.seq m1 m3)
end
def bK (t:Tk) (X:GP (List Nr)) (en:ByteArray) (o:List (List Nr)):GP (Bool × List (List Nr)):=bnd gN (fun b=>bnd (cond b (aY t en) (ret true)) (fun b2=>cond b2 (ret (false,o)) (bnd X (fun y=>bnd (bY t 0 en) (fun b3=>cond b3 (ret (true,o++[y])) (seq (aM t ⟨#[44]⟩) (ret (true,o++[y]))))))))
section
variable {t:Tk} {X:Nat→GP (List Nr)} {en:ByteArray}
theorem Gc (hX:∀n,Sy (X n)):vg t X en (fun n=>bK t (X n) en) where
 f0 h:=Ev.ak bT (Ev.ak (Ev.yes rfl (iV h)) (Ev.yes rfl Ev.ret'))
 f1 hs h1 h2:=Ev.ak bT (Ev.ak (Ev.yes rfl (dn hs)) (Ev.no rfl (Ev.ak h1 (Ev.ak aI (Ev.yes h2 Ev.ret')))))
 f2 hs h1 h2 h3:=Ev.ak bT (Ev.ak (Ev.yes rfl (dn hs)) (Ev.no rfl (Ev.ak h1 (Ev.ak aI (Ev.no h2 (Ev.seq (bP h3) Ev.ret'))))))
 f3 hs h1 h2 h3:=Wr.snd bT (Wr.snd (Ev.yes rfl (dn hs)) (Wr.no rfl (Wr.snd h1 (Wr.snd aI (Wr.no h2 (Wr.sq (sF h3) (fun _=>aA)))))))
 f4 hs h:=Wr.snd bT (Wr.snd (Ev.yes rfl (dn hs)) (Wr.no rfl (Wr.fst h (fun _ _=>aA))))
 sy n o:=by
  unfold bK
  have:=hX n
  exact aA
end
theorem Lg {t:Tk} {E Q:GP (List Nr)} {o:List (List Nr)}:pX t E Q o=bK t (lM t E Q) ⟨#[125]⟩ o:=by
 unfold pX bK lM seq
 simp only[bU,gB]
theorem ND {t:Tk} {E:GP (List Nr)} {o:List (List Nr)}:rC t E o=bK t (jF t E) ⟨#[125]⟩ o:=by
 unfold rC bK jF seq
 simp only[bU,gB]
theorem I8 {t:Tk} {T:GP (List Nr)} {o:List (List Nr)}:lK t T o=bK t (iL t T 5 ⟨#[112,117,98]⟩) ⟨#[125]⟩ o:=by
 unfold lK bK iL seq
 simp only[bU,gB]
theorem L9 {t:Tk} {E Q:GP (List Nr)} (h1:Sy E) (h2:Sy Q):Sy (lM t E Q):=by
 unfold lM
 exact aA
theorem I9 {t:Tk} {E:GP (List Nr)} (h1:Sy E):Sy (jF t E):=by
 unfold jF
 exact aA
def Fa (N:Nat):Prop:=∀{w:World} {rb tb i:Nat} {cap:Cp} {t:Tk},Rd w rb tb cap t i 0 0→t.len - i≤N→au t i 0 0 ⟨#[105,102]⟩=true→Calls Tryz.prog 71 #[.pointer (some ⟨rb,0,none⟩)] w (aP w rb tb cap t i True (fun n=>gG t n 4))
theorem ifP {N:Nat} (hE:bH 81 N (fun t n=>gG t n 1)) (hB:bH 75 N (fun t n=>gG t n 3)) (hJ:Fa N) {w:World} {rb tb i:Nat} {cap:Cp} {t:Tk} (h:Rd w rb tb cap t i 0 0) (hN:t.len - i≤N+1) (hb:au t i 0 0 ⟨#[105,102]⟩=true):
 Calls Tryz.prog 71 #[.pointer (some ⟨rb,0,none⟩)] w (aP w rb tb cap t i True (fun n=>rz t (gG t n 1) (gG t n 3) (gG t n 4))):=by
 have hl:=h.l
 have aL:=h.eP
 have HB:=aD hb
 clear hb
 have hb:=HB.out
 go_enter Tryz.func71,Tryz.ntmps71
 have q:=Mf.start h
 go_wp2_with fail
 refine(q.ne' (sz w) (aJ)).lf (dx · 33) ?_
 clear q
 intro w1 q
 have F:=q.f1
 go_wp2_with fail
 refine(q.ne' (sz w1) (nk 33 (t.pos i) nl)).wy (dw · _ (ask)) HB.out ?_
 clear q F
 intro w2 q
 have F:=q.f2
 go_wp2_with fail
 refine q.nd (fun hr=>hE hr (by have:=hr.lt;have:=q.go trivial;omega)) (fun w' p hk hw=>⟨rfl,.inr (q.aR hk (by unfold rz;exact wrt))⟩) ?_
 clear q F
 intro w3 x3 i3 y3 hl3 m3 q
 have F:=q.f2
 go_wp2_with fail
 refine q.nd (fun hr=>hB hr (by have:=hr.lt;have:=q.go trivial;omega)) (fun w' p hk hw=>⟨rfl,.inr (q.aR hk (by unfold rz;exact wrt))⟩) ?_
 clear q F
 intro w4 x4 i4 y4 hl4 m4 q
 have F:=q.f2
 go_wp2_with fail
 refine(((q.swap).fE (sl (sz w4) 2)).m2 (sz w4)).et (cO · _ (ask)) ?_
 clear q F
 intro w5 b5 i5 Aa m5 q
 have F:=q.f2
 go_wp2_with fail
 ·go_wp2_with fail
  go_light
  exact Mf.rt (q.fo 33 (t.pos i) 0 0 ⟨#[]⟩ (by simp) aL) Tryz.results71 1 (by unfold rz;exact bS)
 ·go_wp2_with fail
  refine q.lf (iX · _ (ask)) ?_
  clear q F
  intro w6 q
  have F:=q.f2
  go_wp2_with fail
  ·go_wp2_with fail
   go_region_law (first|(refine q.as (sz w7) (by simp) ?_;clear q F;intro w8 yt yu q;have F:=q.f2)|(replace q:=q.drew;go_simp;refine q.nd (fun hr=>hJ hr (by have:=hr.lt;have:=q.go trivial;omega) ‹_›) (fun w' p hk hw=>⟨rfl,.inr (q.aR hk (by have hw2:Wr (fun n=>bnd (cond (au t i5 0 0 ⟨#[105,102]⟩) (gG t n 4) (gG t n 3)) (fun z=>ret (nd 33 (t.pos i) 0 0 E0 [y3,y4,z]))) ⟨i5,0,0⟩ p:=Wr.fst (Wr.yes ‹_› hw) (fun _ _=>aA);unfold rz;exact wrt))⟩) ?_;clear q F;intro w7 x7 i7 y7 zZ m7 q;have F:=q.f2))
   all_goals
    go_wp2_with fail
    go_light
    exact Mf.rt ((q.fE (.slice yt (2+1) yu)).fo 33 (t.pos i) 0 0 ⟨#[]⟩ (by simp) aL) Tryz.results71 1 (by unfold rz;exact bS)
  ·go_wp2_with fail
   go_region_law (first|(refine q.as (sz w9) (by simp) ?_;clear q F;intro I7 yt yu q;have F:=q.f2)|(replace q:=q.drew;go_simp;refine q.nd (fun hr=>hB hr (by have:=hr.lt;have:=q.go trivial;omega)) (fun w' p hk hw=>⟨rfl,.inr (q.aR hk (by have hw2:Wr (fun n=>bnd (cond (au t i5 0 0 ⟨#[105,102]⟩) (gG t n 4) (gG t n 3)) (fun z=>ret (nd 33 (t.pos i) 0 0 E0 [y3,y4,z]))) ⟨i5,0,0⟩ p:=Wr.fst (Wr.no ‹_› hw) (fun _ _=>aA);unfold rz;exact wrt))⟩) ?_;clear q F;intro w9 x7 i7 y7 zZ m7 q;have F:=q.f2))
   all_goals
    go_wp2_with fail
    go_light
    exact Mf.rt ((q.fE (.slice yt (2+1) yu)).fo 33 (t.pos i) 0 0 ⟨#[]⟩ (by simp) aL) Tryz.results71 1 (by unfold rz;exact bS)
def jU (t:Tk) (lives:Bool) (fu:Nat):GP (List Nr):=bnd (fB t 0 4) (fun b2=>cond (lives||b2) (iR t) (kI t fu))
theorem zA {t:Tk} {lives:Bool} {fu:Nat} {o:List (List Nr)}:gK t lives fu o=bnd gN (fun b1=>cond b1 (bnd (jU t lives fu) (fun y=>bnd (aY t ⟨#[43]⟩) (fun b3=>cond b3 (ret (true,o++[y])) (ret (false,o++[y]))))) (ret (false,o))):=by
 unfold gK jU
 simp only[bU,gB]
theorem NG {t:Tk} {lives:Bool} {fu:Nat}:Sy (jU t lives fu):=by
 unfold jU
 exact aA
section
variable {t:Tk} {lives:Bool} {i j:Nat} {y:List Nr} {o:List (List Nr)} {p:Int}
theorem Xv (h1:Ev (fun n=>jU t lives n) ⟨i,0,0⟩ (y,⟨j,0,0⟩)) (h2:au t j 0 0 ⟨#[43]⟩=false):Ev (fun n=>gK t lives n o) ⟨i,0,0⟩ ((false,o++[y]),⟨j,0,0⟩):=by
 simp only[zA]
 exact Ev.ak bT (Ev.yes rfl (Ev.ak h1 (Ev.ak (dn h2) (Ev.no rfl Ev.ret'))))
theorem NH (h1:Ev (fun n=>jU t lives n) ⟨i,0,0⟩ (y,⟨j,0,0⟩)) (h2:au t j 0 0 ⟨#[43]⟩=true):Ev (fun n=>gK t lives n o) ⟨i,0,0⟩ ((true,o++[y]),⟨j+1,0,0⟩):=by
 simp only[zA]
 exact Ev.ak bT (Ev.yes rfl (Ev.ak h1 (Ev.ak (iV h2) (Ev.yes rfl Ev.ret'))))
theorem Po (h1:Wr (fun n=>jU t lives n) ⟨i,0,0⟩ p):Wr (fun n=>gK t lives n o) ⟨i,0,0⟩ p:=by
 simp only[zA]
 exact Wr.snd bT (Wr.yes rfl (Wr.fst h1 (fun _ _=>aA)))
theorem UL (n:Nat) (o:List (List Nr)):Sy (gK t lives n o):=by
 rw[zA]
 have:=NG (t:=t) (lives:=lives) (fu:=n)
 exact aA
theorem Pp {en:ByteArray} (hem:en.toList.isEmpty=true) {F:List (List Nr)} {r:(List (List Nr) × Nat) ⊕ Int} (h:dY t (fun n=>jU t lives n) ⟨#[43]⟩ en false j F r):∀(i0:Nat) (o:List (List Nr)) (y:List Nr),F=o++[y]→Ev (fun n=>jU t lives n) ⟨i0,0,0⟩ (y,⟨j,0,0⟩)→(∀G j',r=.inl (G,j')→EvL (fun n=>gK t lives n) o ⟨i0,0,0⟩ (G,⟨j',0,0⟩))∧∀p,r=.inr p→bZ (fun n=>gK t lives n) o ⟨i0,0,0⟩ p:=by
 induction h using dY.ind with
 |stop h0 h1 h2=>rw[hem] at h0;exact absurd h0 (by decide)
 |tL h0 h1=>
  intro i0 o y hF hy
  refine⟨fun G j' e=>?_,fun p e=>by simp at e⟩
  obtain⟨rfl,rfl⟩:=Prod.mk.inj (Sum.inl.inj e)
  rw[hF]
  exact EvL.stop (Xv hy h1)
 |oZ h0 h1 h2=>rw[hem] at h0;exact absurd h0 (by decide)
 |mZ h0=>exact absurd h0 (by decide)
 |next h1 h2 h3 h4 ih=>
  intro i0 o y hF hy
  obtain⟨k1,k2⟩:=ih _ (o++[y]) _ (by rw[hF]) h3
  exact⟨fun G j' e=>EvL.on (NH hy h1) (k1 G j' e),fun p e=>bZ.on (NH hy h1) (k2 p e)⟩
 |aR h1 h2 h3=>
  intro i0 o y hF hy
  refine⟨fun G j' e=>by simp at e,fun p e=>?_⟩
  obtain rfl:=Sum.inr.inj e
  exact bZ.on (NH hy h1) (bZ.here (Po h3) UL)
theorem Ei {en:ByteArray} (hem:en.toList.isEmpty=true) {r:(List (List Nr) × Nat) ⊕ Int} (h:jk t (fun n=>jU t lives n) ⟨#[43]⟩ en false false i r):(∀G j',r=.inl (G,j')→EvL (fun n=>gK t lives n) [] ⟨i,0,0⟩ (G,⟨j',0,0⟩))∧∀p,r=.inr p→bZ (fun n=>gK t lives n) [] ⟨i,0,0⟩ p:=by
 cases h using jk.ind with
 |empty h1 h2=>exact absurd h1 (by decide)
 |some h1 h2 h3=>exact Pp hem h3 i [] _ rfl h2
 |aR h1 h2=>
  refine⟨fun G j' e=>by simp at e,fun p e=>?_⟩
  obtain rfl:=Sum.inr.inj e
  exact bZ.here (Po h2) UL
end
section
variable {w:World} {rb tb i:Nat} {cap:Cp} {t:Tk}
theorem AA (h:Rd w rb tb cap t i 0 0) (most:Nat) (hm1:1≤most) (hm:most≤3):Calls Tryz.prog 154 #[.pointer (some ⟨rb,0,none⟩),.int .i64 most] w fun e w'=>(∃x i',e=.returned (.string x)∧x.size≤20000∧Nx w rb tb cap t i 0 True w' i' 0 0∧Ev (fun fu=>iq t fu most) ⟨i,0,0⟩ (x,⟨i',0,0⟩))∨tK w rb ⟨i,0,0⟩ (fun fu=>iq t fu most) e w':=(Ux h most hm1 hm).mono fun e w' p=>by
 rcases p with⟨x,i',h1,h2,h3,_,h4⟩|p
 ·exact .inl ⟨x,i',h1,h2,h3,h4⟩
 ·exact .inr p
theorem Pq:fZ 195:=dN (f:=195) (fn:=Tryz.f195) (by kernel_rfl) (by kernel_rfl) rfl
theorem aaZ:fZ 220:=dN (f:=220) (fn:=Tryz.f220) (by kernel_rfl) (by kernel_rfl) rfl
theorem aa0 (h:Rd w rb tb cap t i 0 0):
 Calls Tryz.prog 220 #[.pointer (some ⟨rb,0,none⟩)] w (aP w rb tb cap t i True (fun n=>jU t false n)):=by
 have hl:=h.l
 have aL:=h.eP
 have jT:=nT
 cases hk:bf t i 0 0 4
 ·have hk0:((t.kind i:Int)==4)=false:=(fQ h.lt 4).symm.trans hk
  have HK:=aD hk
  clear hk
  go_enter Tryz.func220,Tryz.ntmps220
  have q:=Mf.start h
  go_wp2_with fail
  refine(q.ne' (sz w) (aJ)).lf (jD ·) ?_
  clear q
  intro w1 q
  have F:=q.f1
  go_wp2_with fail
  refine q.lf (dx · 18) ?_
  clear q F
  intro w2 q
  have F:=q.f1
  go_wp2_with fail
  refine(q.ne' (sz w2) (nk 18 (t.pos i) nl)).nm (AA · 2 (by decide) (by decide)) (fun w' p hk hw=>⟨rfl,.inr ((q.ne' (sz w2) (nk 18 (t.pos i) nl)).aR hk (by unfold jU kI;exact Wr.snd dz (Wr.no (jh rfl HK.out) (Wr.snd bL (Wr.fst hw (fun _ _=>aA))))))⟩) ?_
  clear q F
  intro w3 s3 i3 hs3 hl3 m3 q
  have F:=q.f2
  go_wp2_with fail
  go_light
  exact Mf.rt ((q.jm s3).lk 18 (t.pos i) 0 0 s3 aL hs3) Tryz.results220 1 (by unfold jU kI;exact Ev.ak dz (Ev.no (jh rfl HK.out) (Ev.ak bL (Ev.ak m3 Ev.ret'))))
 ·have hk0:((t.kind i:Int)==4)=true:=(fQ h.lt 4).symm.trans hk
  have HK:=aD hk
  clear hk
  go_enter Tryz.func220,Tryz.ntmps220
  have q:=Mf.start h
  go_wp2_with fail
  refine(q.ne' (sz w) (aJ)).lf (jD ·) ?_
  clear q
  intro w4 q
  have F:=q.f1
  go_wp2_with fail
  refine q.nd (fun hr=>Nv hr) (fun w' p hk hw=>⟨rfl,.inr (q.aR hk (by unfold jU;exact Wr.snd dz (Wr.yes (dZ HK.out) hw)))⟩) ?_
  clear q F
  intro w5 x2 i2 y2 hl2 m2 q
  have F:=q.f1
  go_wp2_with fail
  go_light
  exact Mf.rt (q) Tryz.results220 0 (by unfold jU;exact Ev.ak dz (Ev.yes (dZ HK.out) m2))
end
theorem Ma {lives:Bool} {w:World} {rb tb i:Nat} {cap:Cp} {t:Tk} (h:Rd w rb tb cap t i 0 0) {k:Nat} {fi ca:Array Value} (hin:fZ k) (HX:∀{w' j},Rd w' rb tb cap t j 0 0→Calls Tryz.prog k (fi++ca) w' (aP w' rb tb cap t j True (fun n=>jU t lives n))):
 Calls Tryz.prog 219 #[.pointer (some ⟨rb,0,none⟩),.func (.func k) fi ca] w (rO w rb tb cap t i False (fun n=>iM t lives n)):=by
 have hl:=h.l
 have aL:=h.eP
 have HX:=@aG _ @HX
 have HI:=aD hin
 clear hin
 go_enter Tryz.func219,Tryz.ntmps219
 have q:=Mf.start h
 go_wp2_with fail
 refine q.et (cO · _ (ask)) ?_
 clear q
 intro w1 b1 i1 hE1 m1 q
 go_wp2_with fail
 ·have e2:b1=false:=by simpa using ‹(!b1)=true›
  rw[e2] at m1
  go_wp2_with fail
  go_ret
  exact q.post (fun x=>x.elim) (by simp) (by unfold iM;exact Ev.ak m1 (Ev.no rfl Ev.ret'))
 ·have e2:b1=true:=by simpa using ‹(!b1)=false›
  have hgt:=(hE1.yes e2).1
  rw[e2] at m1
  go_wp2_with fail
  refine q.li (fun hr=>oN hr (mm:=fun n=>loop (gK t lives n) n []) (ask) (fun e=>absurd e (lit)) (fun e=>by rcases e with e|e<;>exact absurd e (by decide)) HI.out (fun F j h=>((Ei (lit) h).1 F j rfl).ev) (fun p h=>((Ei (lit) h).2 p rfl).wr) (fun{w' j} hr' hj=>HX.out hr')) (fun w' p hk hw=>⟨rfl,.inr (q.aR hk (by unfold iM;exact Wr.snd m1 (Wr.yes rfl hw)))⟩) ?_
  clear q
  intro w2 Mc cp2 vs2 i2 V2 hl2 m2 q
  go_wp2_with fail
  go_ret
  exact q.post (fun x=>x.elim) (by have:=hl2.out.2;omega) (by unfold iM;exact Ev.ak m1 (Ev.yes rfl m2))
section
variable {w:World} {rb tb i:Nat} {cap:Cp} {t:Tk}
theorem Xw {N:Nat} (hE:bH 81 N (fun t n=>gG t n 1)) {w:World} {rb tb i:Nat} {cap:Cp} {t:Tk} (h:Rd w rb tb cap t i 0 0) (hN:t.len - i≤N+1) (hb:au t i 0 0 ⟨#[114,101,116,117,114,110]⟩=true):
 Calls Tryz.prog 76 #[.pointer (some ⟨rb,0,none⟩)] w (aP w rb tb cap t i True (fun n=>seq (dK 1) (bnd (bY t 0 ⟨#[59]⟩) (fun Y3=>bnd (bY t 0 ⟨#[125]⟩) (fun Y4=>bnd (bY t 0 ⟨#[41]⟩) (fun Y5=>bnd (bY t 0 ⟨#[44]⟩) (fun Y6=>bnd (bY t 0 ⟨#[93]⟩) (fun Y7=>cond (Y3||(Y4||(Y5||(Y6||(Y7))))) (ret (nd 40 (t.pos i) 0 0 E0 [])) (bnd (gG t n 1) (fun y=>ret (nd 40 (t.pos i) 0 0 E0 [y]))))))))))):=by
 have hl:=h.l
 have aL:=h.eP
 have HB:=aD hb
 clear hb
 have jT:=eX
 go_enter Tryz.func76,Tryz.ntmps76
 have q:=Mf.start h
 go_wp2_with fail
 refine(q.ne' (sz w) (aJ)).lf (dx · 40) ?_
 clear q
 intro w1 q
 have F:=q.f1
 go_wp2_with fail
 refine(q.ne' (sz w1) (nk 40 (t.pos i) nl)).wy (dw · _ (ask)) HB.out ?_
 clear q F
 intro w2 q
 have F:=q.f2
 go_wp2_with fail
 refine q.lf (jD ·) ?_
 clear q F
 intro w3 q
 have F:=q.f2
 have E59:Hid (au t (i+1) 0 0 ⟨#[59]⟩=((t.text (i+1)).toList==[59])):=by show _=_;rw[rW q.st.rd.cl q.st.rd.lt (ask),Lib.toList_data,Lib.toList_data];first|done|rfl
 have aa1:Hid (au t (i+1) 0 0 ⟨#[125]⟩=((t.text (i+1)).toList==[125])):=by show _=_;rw[rW q.st.rd.cl q.st.rd.lt (ask),Lib.toList_data,Lib.toList_data];first|done|rfl
 have E41:Hid (au t (i+1) 0 0 ⟨#[41]⟩=((t.text (i+1)).toList==[41])):=by show _=_;rw[rW q.st.rd.cl q.st.rd.lt (ask),Lib.toList_data,Lib.toList_data];first|done|rfl
 have E44:Hid (au t (i+1) 0 0 ⟨#[44]⟩=((t.text (i+1)).toList==[44])):=by show _=_;rw[rW q.st.rd.cl q.st.rd.lt (ask),Lib.toList_data,Lib.toList_data];first|done|rfl
 have E93:Hid (au t (i+1) 0 0 ⟨#[93]⟩=((t.text (i+1)).toList==[93])):=by show _=_;rw[rW q.st.rd.cl q.st.rd.lt (ask),Lib.toList_data,Lib.toList_data];first|done|rfl
 cases e59:((t.text (i+1)).toList==[59])
 rotate_left
 ·have f59:=E59.out.trans e59
  go_wp2_with fail
  go_light
  exact Mf.rt (q.lk 40 (t.pos i) 0 0 ⟨#[]⟩ aL) Tryz.results76 1 (by exact bS)
 have f59:=E59.out.trans e59
 cases e125:((t.text (i+1)).toList==[125])
 rotate_left
 ·have f125:=aa1.out.trans e125
  go_wp2_with fail
  go_light
  exact Mf.rt (q.lk 40 (t.pos i) 0 0 ⟨#[]⟩ aL) Tryz.results76 1 (by exact bS)
 have f125:=aa1.out.trans e125
 cases e41:((t.text (i+1)).toList==[41])
 rotate_left
 ·have f41:=E41.out.trans e41
  go_wp2_with fail
  go_light
  exact Mf.rt (q.lk 40 (t.pos i) 0 0 ⟨#[]⟩ aL) Tryz.results76 1 (by exact bS)
 have f41:=E41.out.trans e41
 cases e44:((t.text (i+1)).toList==[44])
 rotate_left
 ·have f44:=E44.out.trans e44
  go_wp2_with fail
  go_light
  exact Mf.rt (q.lk 40 (t.pos i) 0 0 ⟨#[]⟩ aL) Tryz.results76 1 (by exact bS)
 have f44:=E44.out.trans e44
 cases e93:((t.text (i+1)).toList==[93])
 rotate_left
 ·have f93:=E93.out.trans e93
  go_wp2_with fail
  go_light
  exact Mf.rt (q.lk 40 (t.pos i) 0 0 ⟨#[]⟩ aL) Tryz.results76 1 (by exact bS)
 have f93:=E93.out.trans e93
 go_wp2_with fail
 refine q.nd (fun hr=>hE hr (by have:=hr.lt;have:=q.go trivial;omega)) (fun w' p hk hw=>⟨rfl,.inr (q.aR hk (by exact wrt))⟩) ?_
 clear q F
 intro w4 x5 i5 y5 hl5 m5 q
 have F:=q.f2
 go_wp2_with fail
 go_light
 refine Mf.rt ((q.fE (sl (sz w4) 1)).l1 (sz w4) 40 (t.pos i) 0 0 ⟨#[]⟩ aL) Tryz.results76 1 (by exact bS) ?_
 simp[bC,World.setCell_alloc_past,F,Nat.lt_succ_of_lt]
theorem Gd {t:Tk} {i:Nat} (hc:Clean t) (hi:i+1<t.len) {s:ByteArray} (hs:s∈gL):au t i 0 1 s=((t.text (i+1)).toList==s.toList):=by
 unfold au
 have h1:decide (i+1<t.len)=true:=by simpa using hi
 rw[h1]
 rcases hc (i+1) with h|h
 ·have h2:(t.kind (i+1)==5||t.kind (i+1)==3)=true:=by rcases h with⟨h,_⟩|h<;>simp[h]
  rw[h2]
  rfl
 ·have h2:((t.text (i+1)).toList==s.toList)=false:=by simpa using h s hs
  rw[h2]
  simp
theorem Pv {N:Nat} (hT:bH 70 N (fun t n=>gG t n 0)) {w:World} {rb tb i:Nat} {cap:Cp} {t:Tk} (h:Rd w rb tb cap t i 0 0) (hN:t.len - i≤N+1):
 Calls Tryz.prog 155 #[.pointer (some ⟨rb,0,none⟩)] w (rO w rb tb cap t i False (fun n=>ig t (gG t n 0) n)):=by
 have hl:=h.l
 have aL:=h.eP
 have jT:=eX
 have hgo:=h.good
 cases hc:au t i 0 0 ⟨#[58,58]⟩
 ·go_enter Tryz.func155,Tryz.ntmps155
  have q:=Mf.start h
  go_wp2_with fail
  refine q.lf (iX · _ (ask)) ?_
  clear q
  intro w1 q
  have hc2:au t i 0 0 ⟨#[58,58]⟩=false:=hc
  go_wp2_with fail
  go_ret
  exact q.post (fun x=>x) (Nat.zero_le _) (by unfold ig;exact bS)
 ·have HC:=aD hc
  have hlt:=(iY h.good h.lt hc).2
  have UM:au t i 0 1 ⟨#[60]⟩=((t.text (i+1)).toList==[60]):=by rw[Gd h.cl hlt (ask),Lib.toList_data,Lib.toList_data];first|done|rfl
  cases hd:((t.text (i+1)).toList==[60])
  ·have HD:=aD (UM.trans hd)
   clear UM
   go_enter Tryz.func155,Tryz.ntmps155
   have q:=Mf.start h
   go_wp2_with fail
   refine q.lf (iX · _ (ask)) ?_
   clear q
   intro w2 q
   go_wp2_with fail
   refine q.lf (kS · hlt) ?_
   clear q
   intro w3 q
   have hc2:=HC.out
   have hd2:=HD.out
   go_wp2_with fail
   go_ret
   exact q.post (fun x=>x) (Nat.zero_le _) (by unfold ig;exact bS)
  ·have HD:=aD (UM.trans hd)
   clear UM
   go_enter Tryz.func155,Tryz.ntmps155
   have q:=Mf.start h
   go_wp2_with fail
   refine q.lf (iX · _ (ask)) ?_
   clear q
   intro w4 q
   go_wp2_with fail
   refine q.lf (kS · hlt) ?_
   clear q
   intro w5 q
   go_wp2_with fail
   refine q.wy (dw · _ (ask)) HC.out ?_
   clear q
   intro w6 q
   go_wp2_with fail
   refine q.wy (dw · _ (ask)) HD.out ?_
   clear q
   intro w7 q
   go_wp2_with fail
   refine q.lf (fun _=>Ed _) ?_
   clear q
   intro w8 q
   go_wp2_with fail
   refine q.li (fun hr=>oN hr (mm:=fun n=>qj t (gG t n 0) ⟨#[62]⟩ n []) (ask) (fun _=>ask) (fun _=>lit) Hw (mH (t:=t) (en:=⟨#[62]⟩) (fun n=>dM _ _ _) |>.sm (lit) (lit)).1 (mH (t:=t) (en:=⟨#[62]⟩) (fun n=>dM _ _ _) |>.sm (lit) (lit)).2 (fun{w' j} hr' hj=>(by have h1:=hr'.lt;simpa using hT hr' (by omega)))) (fun w' p hk hw=>⟨rfl,.inr (q.aR hk (by have hc2:=HC.out;have hd2:=HD.out;unfold ig;exact Wr.snd aI (Wr.snd aI (Wr.yes (dR hc2 hd2) (Wr.o8 iJ hw)))))⟩) ?_
   clear q
   intro w9 zY yj ng i5 V5 hl5 m5 q
   have hc2:=HC.out
   have hd2:=HD.out
   go_wp2_with fail
   go_ret
   exact q.post (fun x=>x.elim) (by have:=hl5.out.2;have:=q.go trivial;omega) (by unfold ig;exact Ev.ak aI (Ev.ak aI (Ev.yes (dR hc2 hd2) (Ev.seq iJ m5))))
end
end Go.Proofs.YtdplogkmkgekdaaGreatDoor.Pj
