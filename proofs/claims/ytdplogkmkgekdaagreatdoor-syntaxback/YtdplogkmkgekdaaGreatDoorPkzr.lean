/- The project's parser: variants. -/
import Derived.Test.YtdplogkmkgekdaaGreatDoorPkzn
import Derived.Test.YtdplogkmkgekdaaGreatDoorPkzx
import Derived.Test.YtdplogkmkgekdaaGreatDoorPla
import Derived.Test.YtdplogkmkgekdaaGreatDoorTypes
import Derived.Test.YtdplogkmkgekdaaGreatDoorPkb
import Derived.Test.YtdplogkmkgekdaaGreatDoorPkx
import Derived.Test.YtdplogkmkgekdaaGreatDoorFDeep
import Derived.Test.YtdplogkmkgekdaaGreatDoorFPath
set_option linter.all false
set_option maxRecDepth 100000
set_option maxHeartbeats 4000000
namespace Go.Proofs.YtdplogkmkgekdaaGreatDoor.Pj
open Go.RowKit
section
variable {w:World} {rb tb i:Nat} {cap:Cp} {t:Tk}
theorem Mf.lS {w W W1:World} {rb tb i j lb:Nat} {cap:Cp} {t:Tk} {g:Prop} {L:List (Nat × Array Value)} {T:List (List Value)} {X V:List (List Nr)} {f:Nat} {args:Array Value} {Q:Ending→World→Prop} {ml:Nat→GP (List (List Nr))} (q:Mf w rb tb cap t i g W j L T nl [] X V) (hb:Below W.heap.size W W1) (hlb:W.heap.size≤lb) (h:Calls Tryz.prog f args W1 fun e w'=>∃β,rO (nD W1 lb β) rb tb cap t j True ml e w') (KB:∀w' p,Kp W.heap.size rb W w'→Wr ml ⟨j,0,0⟩ (p:Nat)→Q (iQ p) w') (K:∀w' ao cp vs' i' F,Hid (j<i'∧vs'.length≤i' - j)→Ev ml ⟨j,0,0⟩ (F,⟨i',0,0⟩)→Mf w rb tb cap t i True w' i' L T (.slice ao vs'.length cp) vs' X F→Q (.returned (.slice ao vs'.length cp)) w'):Calls Tryz.prog f args W1 Q:=h.mono fun e w' p=>by
 obtain⟨β,p⟩:=p
 have hb2:Below W.heap.size W (nD W1 lb β):=hb.setCell (p:=⟨lb,3,none⟩) hlb _
 have q2:=q.below hb2
 rcases p with⟨ao,cp,vs',i',rfl,hx,hK,hl,F,hF,hm⟩|⟨p,rfl,hk,hw⟩
 ·exact K w' ao cp vs' i' F ⟨hx.go trivial rfl,hl⟩ hm ((q2.list hx hK hF).up (fun _=>Nat.lt_of_le_of_lt q2.le (hx.go trivial rfl)))
 ·exact KB w' p ((Kp.of_below hb2).trans (hk.mono hb2.size)) hw
theorem UY {w w':World} {rb tb i i':Nat} {cap:Cp} {t:Tk} {must:Prop} {ki po n m:Int} {na:ByteArray} {mm:Nat→GP (List Nr)} (h:Rd w rb tb cap t i 0 0) (hx:Nx w rb tb cap t i 0 must w' i' 0 0) (hp:0≤po∧po≤7000) (hn:na.size≤20000) (hm:Ev mm ⟨i,0,0⟩ (nd ki po n m na [],⟨i',0,0⟩)):Ht w rb tb cap t i must mm (.returned (.agg (ah ki po n m na nl))) w':=by
 have q:=((Mf.start h).nx hx).lk ki po n m na hp hn
 obtain⟨h,ha⟩:=q.z.all
 exact⟨ki,po,n,m,na,none,0,0,i',rfl,hx,⟨h,isNode.weaken (fun b hb=>hb.1) (fun x=>x) _ _ (ha _ (.inr (List.mem_cons_self ..)))⟩,_,q.fT,hm⟩
def wK (t:Tk) (T:GP (List Nr)) (p:Int) (fu:Nat):GP (List Nr):=bnd (iq t fu 2) (fun s=>bnd (aY t ⟨#[60]⟩) (fun b0=>cond b0 (bnd (qw t T fu) (fun ks=>ret (nd 18 p 0 0 s ks))) (ret (nd 18 p 0 0 s []))))
theorem P5 {N:Nat} (hT:bH 70 N (fun t n=>gG t n 0)) {w:World} {rb tb i:Nat} {cap:Cp} {t:Tk} (h:Rd w rb tb cap t i 0 0) (hN:t.len - i≤N+1):
 Calls Tryz.prog 150 #[.pointer (some ⟨rb,0,none⟩)] w (aP w rb tb cap t i True (fun n=>wK t (gG t n 0) (t.pos i) n)):=by
 have hl:=h.l
 have aL:=h.eP
 go_enter Tryz.func150,Tryz.ntmps150
 have q:=Mf.start h
 go_wp2_with fail
 refine(q.ne' (sz w) (aJ)).lf (dx · 18) ?_
 clear q
 intro w1 q
 have F:=q.f1
 go_wp2_with fail
 refine(q.ne' (sz w1) (nk 18 (t.pos i) nl)).nm (AA · 2 (by decide) (by decide)) (fun w' p hk hw=>⟨rfl,.inr ((q.ne' (sz w1) (nk 18 (t.pos i) nl)).aR hk (by unfold wK;exact wrt))⟩) ?_
 clear q F
 intro w2 s2 i2 hs2 hl2 m2 q
 have F:=q.f2
 go_wp2_with fail
 refine(q.jm s2).et (cO · _ (ask)) ?_
 clear q F
 intro w3 b3 i3 eu m3 q
 have F:=q.f2
 go_wp2_with fail
 ·go_wp2_with fail
  refine(Ed _).mono ?_
  rintro e wS ⟨rfl,hbS⟩
  have Jl:Below w3.heap.size w3 wS:=((Below.refl _ _).alloc (Nat.le_refl _) _).trans (hbS.mono (by simp))
  have P6:=(hbS.block (sz w3) (by simp)).trans (heap_alloc_new w3 _)
  have Dj:=(q.below Jl).st.rd
  have P7:rb<sz w3:=by have:=Dj.l;have:=q.st.rd.l;omega
  go_wp2_with fail
  refine q.lS Jl (Nat.le_refl _) (UQ Dj P6 P7 PV (fun F j h=>(Jj (fun n=>dM _ _ _) h).1 F j rfl) (fun p h=>(Jj (fun n=>dM _ _ _) h).2 p rfl) (fun{w' j β} hr' hj hb'=>En hr' hb' P7 Pq Hw (fun _ {w''} AP=>by simpa using Nv AP) (fun{w''} AP=>by have h1:=AP.lt;have h2:=q.go trivial;simpa using hT AP (by omega)))) (fun w' p hk hw=>⟨rfl,.inr (q.aR hk (by unfold wK;exact wrt))⟩) ?_
  clear q F hbS Jl P6 Dj
  intro w5 mh mo Ab i6 V6 mq m6 q
  have F:=q.f2
  have zZ:Ab.length≤6001:=by have:=mq.out.2;have:=q.st.rd.lt;have:=h.good.few;omega
  go_wp2_with fail
  go_light
  exact Mf.rt ((q.fE (.slice mh Ab.length mo)).fo 18 (t.pos i) 0 0 s2 (by omega) aL hs2) Tryz.results150 1 (by unfold wK;exact bS)
 ·go_wp2_with fail
  go_light
  exact Mf.rt (q.lk 18 (t.pos i) 0 0 s2 aL hs2) Tryz.results150 1 (by unfold wK;exact bS)
def AQ (t:Tk) (b:Bool) (fu:Nat):GP (List Nr):=bnd (dh t) (fun p=>bnd (aY t ⟨#[60]⟩) (fun b0=>cond b0 (bnd (bnd (loop (fU t b fu) fu ([],false)) (fun r=>ret r.1)) (fun ks=>ret (nd 9 p 0 0 E0 ks))) (ret (nd 9 p 0 0 E0 []))))
theorem Dk {t:Tk} {b:Bool} {fu:Nat}:iT t b fu=AQ t b fu:=by
 unfold iT AQ fU
 simp only[bU,gB]
theorem UZ (h:Rd w rb tb cap t i 0 0) {kM kO:Nat} {sG sH rF rG:Array Value} {b:Bool} (hiM:fZ kM) (PZ:fZ kO) (HM:∀{w' j},Rd w' rb tb cap t j 0 0→bf t j 0 0 4=true→Calls Tryz.prog kM (sG++sH) w' (aP w' rb tb cap t j True (fun n=>qA t b n))) (HO:∀{w' j},Rd w' rb tb cap t j 0 0→Calls Tryz.prog kO (rF++rG) w' (aP w' rb tb cap t j True (fun n=>qB t b n))):
 Calls Tryz.prog 187 #[.pointer (some ⟨rb,0,none⟩),.func (.func kM) sG sH,.func (.func kO) rF rG] w (aP w rb tb cap t i False (fun n=>iT t b n)):=by
 have hl:=h.l
 have aL:=h.eP
 have HHM:=@aG _ @HM
 have HHO:=@aG _ @HO
 have HIM:=aD hiM
 have HIO:=aD PZ
 clear HM HO hiM PZ
 go_enter Tryz.func187,Tryz.ntmps187
 have q:=Mf.start h
 go_wp2_with fail
 refine(q.ne' (sz w) (aJ)).lf (dx · 9) ?_
 clear q
 intro w1 q
 have F:=q.f1
 go_wp2_with fail
 refine(q.ne' (sz w1) (nk 9 (t.pos i) nl)).et (cO · _ (ask)) ?_
 clear q F
 intro w2 b3 i3 eu m3 q
 have F:=q.f2
 go_wp2_with fail
 ·go_wp2_with fail
  refine(Ed _).mono ?_
  rintro e wS ⟨rfl,hbS⟩
  have Jl:Below w2.heap.size w2 wS:=((Below.refl _ _).alloc (Nat.le_refl _) _).trans (hbS.mono (by simp))
  have P6:=(hbS.block (sz w2) (by simp)).trans (heap_alloc_new w2 _)
  have Dj:=(q.below Jl).st.rd
  have P7:rb<sz w2:=by have:=Dj.l;have:=q.st.rd.l;omega
  go_wp2_with fail
  refine q.lS Jl (Nat.le_refl _) (UQ Dj P6 P7 PV (fun F j h=>(Jk h).1 F j rfl) (fun p h=>(Jk h).2 p rfl) (fun{w' j β} hr' hj hb'=>En hr' hb' P7 HIM.out HIO.out (fun hb {w''} AP=>HHM.out AP hb) (fun{w''} AP=>HHO.out AP))) (fun w' p hk hw=>⟨rfl,.inr (q.aR hk (by simp only[Dk];unfold AQ;exact wrt))⟩) ?_
  clear q F hbS Jl P6 Dj
  intro w4 mh mo Ab i6 V6 mq m6 q
  have F:=q.f2
  have zZ:Ab.length≤6001:=by have:=mq.out.2;have:=q.st.rd.lt;have:=h.good.few;omega
  go_wp2_with fail
  go_light
  exact Mf.rt (((q.fE (.slice mh Ab.length mo)).up (g':=False) (fun x=>x.elim)).fo 9 (t.pos i) 0 0 ⟨#[]⟩ (by omega) aL) Tryz.results187 1 (by simp only[Dk];unfold AQ;exact bS)
 ·go_wp2_with fail
  go_light
  exact Mf.rt (q.lk 9 (t.pos i) 0 0 ⟨#[]⟩ aL) Tryz.results187 1 (by simp only[Dk];unfold AQ;exact bS)
theorem R3 (h:Rd w rb tb cap t i 0 0):Calls Tryz.prog 188 #[.pointer (some ⟨rb,0,none⟩)] w (aP w rb tb cap t i True (fun n=>qA t false n)):=
 (Jb h).mono fun e w' p=>by
  rcases p with⟨rfl,hx,hb⟩|⟨rfl,hk,hb⟩
  ·exact .inl (UY h hx (by have:=h.good.qg i;omega) (by have:=h.good.nK i;omega) (Ev.ak bL (Ev.ak (Ct hb) (Ev.ak Ev.ret' Ev.ret'))))
  ·exact .inr ⟨_,rfl,hk,Wr.snd bL (Wr.fst (Cu hb) (fun _ _=>aA))⟩
theorem R4 (h:Rd w rb tb cap t i 0 0):Calls Tryz.prog 189 #[.pointer (some ⟨rb,0,none⟩)] w (aP w rb tb cap t i True (fun n=>qB t false n)):=
 (Ja h).mono fun e w' p=>by
  rcases p with⟨s,i',rfl,hs,hx,hm⟩|⟨p,rfl,hk,hw⟩
  ·exact .inl (UY h hx (by have:=h.good.qg i;omega) hs (Ev.ak bL (Ev.ak hm (Ev.ak Ev.ret' Ev.ret'))))
  ·exact .inr ⟨_,rfl,hk,Wr.snd bL (Wr.fst hw (fun _ _=>aA))⟩
theorem NP (h:Rd w rb tb cap t i 0 0):Calls Tryz.prog 193 #[.pointer (some ⟨rb,0,none⟩)] w (aP w rb tb cap t i True (fun n=>qA t true n)):=He h
theorem NQ (h:Rd w rb tb cap t i 0 0):Calls Tryz.prog 194 #[.pointer (some ⟨rb,0,none⟩)] w (aP w rb tb cap t i True (fun n=>qB t true n)):=G9 h
theorem abd:fZ 188:=dN (f:=188) (fn:=Tryz.f188) (by kernel_rfl) (by kernel_rfl) rfl
theorem abe:fZ 189:=dN (f:=189) (fn:=Tryz.f189) (by kernel_rfl) (by kernel_rfl) rfl
theorem abf:fZ 193:=dN (f:=193) (fn:=Tryz.f193) (by kernel_rfl) (by kernel_rfl) rfl
theorem abg:fZ 194:=dN (f:=194) (fn:=Tryz.f194) (by kernel_rfl) (by kernel_rfl) rfl
theorem Eo (h:Rd w rb tb cap t i 0 0):
 Calls Tryz.prog 135 #[.pointer (some ⟨rb,0,none⟩)] w (aP w rb tb cap t i False (fun n=>iT t false n)):=by
 have hl:=h.l
 have aL:=h.eP
 go_enter Tryz.func135,Tryz.ntmps135
 have q:=Mf.start h
 go_wp2_with fail
 refine(q.ne' (sz w) (aJ)).nn (fun hr=>UZ hr (b:=false) (sG:=#[.pointer (some ⟨rb,0,none⟩)]) (sH:=#[]) (rF:=#[.pointer (some ⟨rb,0,none⟩)]) (rG:=#[]) abd abe (fun{w' j} hr' hb=>by simpa using R3 hr') (fun{w' j} hr'=>by simpa using R4 hr')) (fun w' p hk hw=>⟨rfl,.inr ((q.ne' (sz w) (aJ)).aR hk (hw))⟩) ?_
 clear q
 intro w1 x1 i1 y1 hl1 m1 q
 have F:=q.f1
 go_wp2_with fail
 go_light
 exact Mf.rt (q) Tryz.results135 0 (m1)
theorem Ep (h:Rd w rb tb cap t i 0 0):
 Calls Tryz.prog 143 #[.pointer (some ⟨rb,0,none⟩)] w (aP w rb tb cap t i False (fun n=>iT t true n)):=by
 have hl:=h.l
 have aL:=h.eP
 go_enter Tryz.func143,Tryz.ntmps143
 have q:=Mf.start h
 go_wp2_with fail
 refine(q.ne' (sz w) (aJ)).nn (fun hr=>UZ hr (b:=true) (sG:=#[.pointer (some ⟨rb,0,none⟩)]) (sH:=#[]) (rF:=#[.pointer (some ⟨rb,0,none⟩)]) (rG:=#[]) abf abg (fun{w' j} hr' hb=>by simpa using NP hr') (fun{w' j} hr'=>by simpa using NQ hr')) (fun w' p hk hw=>⟨rfl,.inr ((q.ne' (sz w) (aJ)).aR hk (hw))⟩) ?_
 clear q
 intro w1 x1 i1 y1 hl1 m1 q
 have F:=q.f1
 go_wp2_with fail
 go_light
 exact Mf.rt (q) Tryz.results143 0 (m1)
end
section
variable {w:World} {rb tb i:Nat} {cap:Cp} {t:Tk}
theorem app0 {P:Program} {f:Nat} {a:Value} {w:World} {Q:Ending→World→Prop} (h:Calls P f #[a] w Q):Calls P f (#[a]++#[]) w Q:=by simpa using h
theorem AU {n a b l:Nat} (h:l≤6001) (h1:n≤b - a) (h2:b<l):n≤6010:=by omega
theorem abh:fZ 152:=dN (f:=152) (fn:=Tryz.f152) (by kernel_rfl) (by kernel_rfl) rfl
theorem abj:fZ 156:=dN (f:=156) (fn:=Tryz.f156) (by kernel_rfl) (by kernel_rfl) rfl
theorem abk:fZ 139:=dN (f:=139) (fn:=Tryz.f139) (by kernel_rfl) (by kernel_rfl) rfl
theorem abl:fZ 192:=dN (f:=192) (fn:=Tryz.f192) (by kernel_rfl) (by kernel_rfl) rfl
theorem adT {N:Nat} (hT:bH 70 N (fun t n=>gG t n 0)) (hE:bH 81 N (fun t n=>gG t n 1)) {w:World} {rb tb i:Nat} {cap:Cp} {t:Tk} (h:Rd w rb tb cap t i 0 0) (hN:t.len - i≤N+1):
 Calls Tryz.prog 77 #[.pointer (some ⟨rb,0,none⟩)] w (aP w rb tb cap t i True (fun n=>qx t (gG t n 0) (gG t n 1) n)):=by
 have hl:=h.l
 have aL:=h.eP
 go_enter Tryz.func77,Tryz.ntmps77
 have q:=Mf.start h
 go_wp2_with fail
 refine(q.ne' (sz w) (aJ)).lf (dx · 44) ?_
 clear q
 intro w1 q
 have F:=q.f1
 go_wp2_with fail
 refine(q.ne' (sz w1) (nk 44 (t.pos i) nl)).wn (dw · _ (ask)) (fun w' hk hw=>⟨rfl,.inr ((q.ne' (sz w1) (nk 44 (t.pos i) nl)).aR hk (by simp only[uM];unfold vo bK jF;exact wrt))⟩) ?_
 clear q F
 intro w2 m2 q
 have F:=q.f2
 go_wp2_with fail
 refine q.nm (AA · 2 (by decide) (by decide)) (fun w' p hk hw=>⟨rfl,.inr (q.aR hk (by simp only[uM];unfold vo bK jF;exact wrt))⟩) ?_
 clear q F
 intro w3 s3 i3 hs3 hl3 m3 q
 have F:=q.f2
 go_wp2_with fail
 refine(q.jm s3).ln (fun hr=>Pv hT hr (by have:=hr.lt;have:=q.go trivial;omega)) (fun w' p hk hw=>⟨rfl,.inr ((q.jm s3).aR hk (by simp only[uM];unfold vo bK jF;exact wrt))⟩) ?_
 clear q F
 intro w4 xB xC nE i4 V4 hl4 m4 q
 have F:=q.f2
 have tV:Hid (V4.length=nE.length):=q.fv.len
 have hl5:nE.length≤6001:=by have:=hl4.out.2;have:=q.st.rd.lt;have:=h.good.few;omega
 go_wp2_with fail
 refine((q.fE (.slice xB nE.length xC)).Cn (nE.length:Int)).wn (dw · _ (ask)) (fun w' hk hw=>⟨rfl,.inr (((q.fE (.slice xB nE.length xC)).Cn (nE.length:Int)).aR hk (by simp only[uM];unfold vo bK jF;exact wrt))⟩) ?_
 clear q F
 intro w5 m5 q
 have F:=q.f2
 have R5:Hid (∀p,Wr (fun n=>loop (bK t (jF t (gG t n 1)) ⟨#[125]⟩) n []) ⟨i4+1,0,0⟩ p→Wr (fun n=>qx t (gG t n 0) (gG t n 1) n) ⟨i,0,0⟩ p):=fun p hw=>(by simp only[uM];unfold vo;exact wrt)
 have R6:Hid (∀m,i4+1≤m→m<t.len→t.len - m≤N):=fun m h1 h2=>(by have:=q.go trivial;omega)
 go_wp2_with fail
 go_region_law (first|(refine q.Px R7 Jm (Nat.le_trans hl5 (by decide)) (AU h.good.few Jo.out.2.1 q.st.rd.lt) ?_;clear q F Jm;intro w8 mh mo q;have F:=q.f2)|(go_simp;refine q.lh (fun hr=>oN hr (mm:=fun n=>loop (bK t (jF t (gG t n 1)) ⟨#[125]⟩) n []) (ask) (fun _=>ask) (fun _=>lit) abj (pq (fun n=>I9 (dM _ _ _))).1 (pq (fun n=>I9 (dM _ _ _))).2 (fun{w' j} hr' hj=>app0 (adP hE hr' (Nat.le_succ_of_le (R6.out _ hj hr'.lt))))) (fun w' p hk hw=>⟨rfl,.inr (q.aR hk (R5.out _ hw))⟩) ?_;clear q F;intro w7 ae4 ae5 Ab i6 V6 Jo R7 Jm m6 q;have F:=q.f2)|(replace q:=q.drew;go_simp;refine q.lf (fun _=>Ef _) ?_;clear q F;intro w6 q;have F:=q.f2))
 all_goals
  have hVl:V4.length=nE.length:=tV.out
  go_wp2_with fail
  go_light
  exact Mf.rt ((q.fE (.slice mh (nE.length+Ab.length) mo)).fo 44 (t.pos i) 0 (nE.length:Int) s3 (by have:=Jo.out.2.1;have:=q.st.rd.lt;have:=h.good.few;simp;omega) aL hs3) Tryz.results77 1 (by simp only[uM];unfold vo;rw[←hVl];exact bS)
theorem Xz {N:Nat} (hT:bH 70 N (fun t n=>gG t n 0)) {w:World} {rb tb i:Nat} {cap:Cp} {t:Tk} (h:Rd w rb tb cap t i 0 0) (hN:t.len - i≤N+1) (hb:au t i 0 0 ⟨#[115,116,114,117,99,116]⟩=true):
 Calls Tryz.prog 61 #[.pointer (some ⟨rb,0,none⟩)] w (aP w rb tb cap t i True (fun n=>seq (dK 1) (jS t (gG t n 0) (t.pos i) 0 n))):=by
 have hl:=h.l
 have aL:=h.eP
 have HB:=aD hb
 clear hb
 go_enter Tryz.func61,Tryz.ntmps61
 have q:=Mf.start h
 go_wp2_with fail
 refine(q.ne' (sz w) (aJ)).lf (dx · 3) ?_
 clear q
 intro w1 q
 have F:=q.f1
 go_wp2_with fail
 refine(q.ne' (sz w1) (nk 3 (t.pos i) nl)).wy (dw · _ (ask)) HB.out ?_
 clear q F
 intro w2 q
 have F:=q.f2
 go_wp2_with fail
 refine q.nm (kD ·) (fun w' p hk hw=>⟨rfl,.inr (q.aR hk (by simp only[tQ];unfold rZ bK iL;exact wrt))⟩) ?_
 clear q F
 intro w3 s3 i3 hs3 hl3 m3 q
 have F:=q.f2
 go_wp2_with fail
 refine(q.jm s3).nn (fun hr=>Eo hr) (fun w' p hk hw=>⟨rfl,.inr ((q.jm s3).aR hk (by simp only[tQ];unfold rZ bK iL;exact wrt))⟩) ?_
 clear q F
 intro w4 x4 i4 y4 hl4 m4 q
 have F:=q.f2
 have adU:(0:Int)≤(t.pos i4:Int)∧(t.pos i4:Int)≤7000:=by have:=h.good.qg i4;omega
 go_wp2_with fail
 refine(q.ne' (sz w4) (x4.a)).lf (dx · 4) ?_
 clear q F
 intro w5 q
 have F:=q.f3
 go_wp2_with fail
 refine(q.ne' (sz w5) (nk 4 (t.pos i4) nl)).wn (dw · _ (ask)) (fun w' hk hw=>⟨rfl,.inr ((q.ne' (sz w5) (nk 4 (t.pos i4) nl)).aR hk (by simp only[tQ];unfold rZ bK iL;exact wrt))⟩) ?_
 clear q F
 intro w6 m6 q
 have F:=q.f4
 go_wp2_with fail
 refine q.lf (fun _=>Ef _) ?_
 clear q F
 intro w7 q
 have F:=q.f4
 go_wp2_with fail
 refine q.li (fun hr=>oN hr (mm:=fun n=>loop (bK t (iL t (gG t n 0) 5 ⟨#[112,117,98]⟩) ⟨#[125]⟩) n []) (ask) (fun _=>ask) (fun _=>lit) aaW (pq (fun n=>Aw (dM _ _ _))).1 (pq (fun n=>Aw (dM _ _ _))).2 (fun{w' j} hr' hj=>(by have h1:=hr'.lt;have h2:=q.go trivial;simpa using aaY hT hr' (by omega)))) (fun w' p hk hw=>⟨rfl,.inr (q.aR hk (by simp only[tQ];unfold rZ;exact wrt))⟩) ?_
 clear q F
 intro w8 ao8 cp8 vs8 i8 V8 Pn m8 q
 have F:=q.f4
 have Cr:vs8.length≤6001:=by have:=Pn.out.2;have:=q.st.rd.lt;have:=h.good.few;omega
 go_wp2_with fail
 go_light
 refine Mf.rt (((((q.fE (.slice ao8 vs8.length cp8)).fo 4 (t.pos i4) 0 0 ⟨#[]⟩ (by omega) adU).swap).p25 (sl (sz w8) 2)).l2 (sz w8) 3 (t.pos i) 0 0 s3 aL hs3) Tryz.results61 3 (by simp only[tQ];unfold rZ;exact bS) ?_
 simp[bC,World.setCell_alloc_past,F,Nat.lt_succ_of_lt]
end
theorem abm {N:Nat} (hE:bH 81 N (fun t n=>gG t n 1)) (hQ:bH 86 N (fun t n=>gG t n 5)) {w:World} {rb tb i:Nat} {cap:Cp} {t:Tk} (h:Rd w rb tb cap t i 0 0) (hN:t.len - i≤N+1):
 Calls Tryz.prog 72 #[.pointer (some ⟨rb,0,none⟩)] w (aP w rb tb cap t i True (fun n=>mQ t (gG t n 1) (gG t n 5) n)):=by
 have hl:=h.l
 have aL:=h.eP
 go_enter Tryz.func72,Tryz.ntmps72
 have q:=Mf.start h
 go_wp2_with fail
 refine(q.ne' (sz w) (aJ)).lf (dx · 34) ?_
 clear q
 intro w1 q
 have F:=q.f1
 go_wp2_with fail
 refine(q.ne' (sz w1) (nk 34 (t.pos i) nl)).wn (dw · _ (ask)) (fun w' hk hw=>⟨rfl,.inr ((q.ne' (sz w1) (nk 34 (t.pos i) nl)).aR hk (by simp only[vk];unfold uL bK lM;exact wrt))⟩) ?_
 clear q F
 intro w2 m2 q
 have F:=q.f2
 have ae6:Hid (∀p,Wr (fun n=>gG t n 1) ⟨i+1,0,0⟩ p→Wr (fun n=>mQ t (gG t n 1) (gG t n 5) n) ⟨i,0,0⟩ p):=fun p hw=>(by simp only[vk];unfold uL bK lM;exact wrt)
 go_upto_region 3 with fail
 go_cut [] (fun wx=>∃(i3:Nat) (y3:List Nr) (v:Value) (vs:List (List Value)),Hid (i+1<i3)∧Ev (fun n=>gG t n 1) ⟨i+1,0,0⟩ (y3,⟨i3,0,0⟩)∧Hid (vs.length=1)∧Mf w rb tb cap t i True wx i3 [(sz w1,nk 34 (t.pos i) v),(sz w,aJ)] [] v vs [] [y3])
 case first=>
  go_wp2_with fail
  go_region_law (first|(refine q.as (sz w3) (by simp) ?_;clear q F;intro w4 Ay Az q;have F:=q.f2)|(replace q:=q.drew;go_simp;refine q.nd (fun hr=>hE hr (by have:=hr.lt;have:=q.go trivial;omega)) (fun w' p hk hw=>⟨rfl,.inr (q.aR hk (ae6.out _ hw))⟩) ?_;clear q F;intro w3 x3 i3 y3 hl3 m3 q;have F:=q.f2))
  all_goals
   go_wp2_with fail
   go_meet
   exact⟨i3,y3,_,_,hl3,m3,(by simp:_=_),q.fE (.slice Ay (0+1) Az)⟩
 case rest=>
  clear F q
  obtain⟨i3,y3,v,vs,hl3,m3,qz,q⟩:=hcut
  obtain⟨w4,hw⟩:∃x,x=wc:=⟨_,rfl⟩
  subst hw
  obtain⟨Ay,Az,rfl⟩:=q.shape
  have F:=q.f2
  go_wp2_with fail
  refine q.wn (dw · _ (ask)) (fun w' hk hw=>⟨rfl,.inr (q.aR hk (by simp only[vk];unfold uL bK lM;exact wrt))⟩) ?_
  clear q F
  intro w5 m4 q
  have F:=q.f2
  have ae7:Hid (∀p,Wr (fun n=>loop (bK t (lM t (gG t n 1) (gG t n 5)) ⟨#[125]⟩) n []) ⟨i3+1,0,0⟩ p→Wr (fun n=>mQ t (gG t n 1) (gG t n 5) n) ⟨i,0,0⟩ p):=fun p hw=>(by simp only[vk];unfold uL;exact wrt)
  have ae8:Hid (∀m,i3+1≤m→m<t.len→t.len - m≤N):=fun m h1 h2=>(by have:=q.go trivial;omega)
  go_wp2_with fail
  go_region_law (first|(refine q.Px Jc AL (by have:=qz.out;omega) (AU h.good.few xQ.out.2.1 q.st.rd.lt) ?_;clear q F AL;intro w8 zY yj q;have F:=q.f2)|(go_simp;refine q.lh (fun hr=>oN hr (mm:=fun n=>loop (bK t (lM t (gG t n 1) (gG t n 5)) ⟨#[125]⟩) n []) (ask) (fun _=>ask) (fun _=>lit) abh (pq (fun n=>L9 (dM _ _ _) (dM _ _ _))).1 (pq (fun n=>L9 (dM _ _ _) (dM _ _ _))).2 (fun{w' j} hr' hj=>app0 (aeW hE hQ hr' (ae8.out _ hj hr'.lt)))) (fun w' p hk hw=>⟨rfl,.inr (q.aR hk (ae7.out _ hw))⟩) ?_;clear q F;intro w7 aa2 aa3 ng i5 V5 xQ Jc AL m5 q;have F:=q.f2)|(replace q:=q.drew;go_simp;refine q.lf (fun _=>Ef _) ?_;clear q F;intro w6 q;have F:=q.f2))
  all_goals
   go_wp2_with fail
   go_light
   exact Mf.rt ((q.fE (.slice zY (vs.length+ng.length) yj)).fo 34 (t.pos i) 0 0 ⟨#[]⟩ (by have:=xQ.out.2.1;have:=q.st.rd.lt;have:=h.good.few;have:=qz.out;simp;omega) aL) Tryz.results72 1 (by simp only[vk];unfold uL;exact bS)
section
variable {w:World} {rb tb i:Nat} {cap:Cp} {t:Tk}
theorem sj {t:Tk} {i:Nat} {s:ByteArray} (h:au t i 0 0 s=true) {q:Int} (h5:q≠5) (h3:q≠3):bf t i 0 0 q=false:=by
 unfold au at h
 unfold bf
 simp only[Bool.and_eq_true,Bool.or_eq_true,beq_iff_eq] at h
 have e:((t.kind (i+0):Int)==q)=false:=by
  rw[beq_eq_false_iff_ne]
  rcases h.2.2.1 with e|e<;>omega
 rw[e]
 simp
theorem P8 {t:Tk} {i:Nat} (hk:bf t i 0 0 2=false):Ev (fun _=>bG t) ⟨i,0,0⟩ (⟨#[]⟩,⟨i,4,t.pos i⟩):=Ev.ak dz (Ev.no hk (Ev.seq (Zh ⟨rfl,fun _=>⟨rfl,rfl⟩,fun h=>absurd rfl h⟩) Ev.ret'))
theorem Gq {t:Tk} {i most:Nat} (hk:bf t i 0 0 2=false):Ev (fun n=>iq t n most) ⟨i,0,0⟩ (⟨#[]⟩,⟨i,4,t.pos i⟩):=by
 have h2:EvL (fun _=>lq t most) (⟨#[]⟩,1,false) ⟨i,4,t.pos i⟩ ((⟨#[]⟩,1,false),⟨i,4,t.pos i⟩):=EvL.stop (Nk (oL (EU rfl)))
 exact Ev.ak (P8 hk) (Ev.ak (x:=fun fu=>loop (lq t most) fu (⟨#[]⟩,1,false)) h2.ev Ev.ret')
theorem abn {t:Tk} {i:Nat} (h:au t i 0 0 ⟨#[41]⟩=true):∃y,Ev (fun n=>gG t n 0) ⟨i,0,0⟩ (y,⟨i,4,t.pos i⟩):=
 ⟨_,Ev.up (m:=fun n=>iN t (gG t n 0) n) (Ev.ak bL (Ev.ak (dn (aF h (lit))) (Ev.no rfl (Ev.ak (dn (aF h (lit))) (Ev.no rfl (Ev.ak (dn (aF h (lit))) (Ev.no rfl (Ev.ak aI (Ev.ak aI (Ev.no (jh (aF h (lit)) (aF h (lit))) (Ev.ak (dn (aF h (lit))) (Ev.no rfl (Ev.ak (Gq (sj h (by decide) (by decide))) (Ev.ak (dn (EU rfl)) (Ev.no rfl Ev.ret'))))))))))))))) (fun _=>rfl)⟩
theorem P9 {t:Tk} {i:Nat} (h:au t i 0 0 ⟨#[41]⟩=true):∃y,Ev (fun n=>gG t n 5) ⟨i,0,0⟩ (y,⟨i,4,t.pos i⟩):=
 ⟨_,Ev.up (m:=fun n=>bN t (gG t n 5) n) (Ev.ak bL (Ev.ak (dn (aF h (lit))) (Ev.no rfl (Ev.ak (dn (aF h (lit))) (Ev.no rfl (Ev.ak dz (Ev.no (sj h (by decide) (by decide)) (Ev.ak aI (Ev.ak aI (Ev.no (jh (aF h (lit)) (aF h (lit))) (Ev.ak (dn (aF h (lit))) (Ev.no rfl (Ev.ak aI (Ev.ak aI (Ev.no (jh (aF h (lit)) (aF h (lit))) (Ev.ak (Gq (sj h (by decide) (by decide))) (Ev.ak bT (Ev.no (oL rfl) (Ev.ak aI (Ev.no (EU rfl) Ev.ret')))))))))))))))))))) (fun _=>rfl)⟩
theorem Me {t:Tk} {s s':Rs} {y':List Nr} (h:Ev (fun n=>xu (gG t n 0)) s (y',s')):∃y,Ev (fun n=>gG t n 0) s (y,s')∧y'=pf y:=by
 obtain⟨a,ha⟩:=h
 obtain⟨q,h1,h2⟩:=pK (ha a (Nat.le_refl _))
 obtain⟨rfl,rfl⟩:pf q.1=y'∧q.2=s':=by simpa[ret] using h2
 exact⟨q.1,⟨a,fun n hn=>Ui t a n 0 hn _ _ h1⟩,rfl⟩
theorem Mg {t:Tk} {s:Rs} {p:Int} (h:Wr (fun n=>xu (gG t n 0)) s p):Wr (fun n=>gG t n 0) s p:=by
 obtain⟨a,ha⟩:=h
 refine⟨a,fun n hn r hr=>?_⟩
 exact ha n hn (pf r.1,r.2) (vR hr)
theorem dY.unmap {t:Tk} {dU en:ByteArray} {lo:Bool} {j:Nat} {F:List (List Nr)} {r:ru} (h:dY t (fun n=>xu (gG t n 0)) dU en lo j F r):∀F0,F=F0.map pf→(∀G j',r=.inl (G,j')→∃G0,G=G0.map pf∧dY t (fun n=>gG t n 0) dU en lo j F0 (.inl (G0,j')))∧∀p,r=.inr p→dY t (fun n=>gG t n 0) dU en lo j F0 (.inr p):=by
 induction h using dY.ind with
 |stop h0 h1 h2=>
  intro F0 hF
  refine⟨fun G j' e=>?_,fun p e=>by simp at e⟩
  obtain⟨rfl,rfl⟩:=Prod.mk.inj (Sum.inl.inj e)
  exact⟨F0,hF,.stop h0 h1 h2⟩
 |tL h0 h1=>
  intro F0 hF
  refine⟨fun G j' e=>?_,fun p e=>by simp at e⟩
  obtain⟨rfl,rfl⟩:=Prod.mk.inj (Sum.inl.inj e)
  exact⟨F0,hF,.tL h0 h1⟩
 |oZ h0 h1 h2=>
  intro F0 hF
  refine⟨fun G j' e=>by simp at e,fun p e=>?_⟩
  rw[←Sum.inr.inj e]
  exact .oZ h0 h1 h2
 |mZ h0 h1 h2=>
  intro F0 hF
  refine⟨fun G j' e=>?_,fun p e=>by simp at e⟩
  obtain⟨rfl,rfl⟩:=Prod.mk.inj (Sum.inl.inj e)
  exact⟨F0,hF,.mZ h0 h1 h2⟩
 |next h1 h2 h3 h4 ih=>
  intro F0 hF
  obtain⟨y,hy,rfl⟩:=Me h3
  obtain⟨k1,k2⟩:=ih (F0++[y]) (by rw[hF,List.map_append];rfl)
  refine⟨fun G j' e=>?_,fun p e=>.next h1 h2 hy (k2 p e)⟩
  obtain⟨G0,e1,e2⟩:=k1 G j' e
  exact⟨G0,e1,.next h1 h2 hy e2⟩
 |aR h1 h2 h3=>
  intro F0 hF
  refine⟨fun G j' e=>by simp at e,fun p e=>?_⟩
  rw[←Sum.inr.inj e]
  exact .aR h1 h2 (Mg h3)
def yD (t:Tk) (T:GP (List Nr)) (fu:Nat):GP (List (List Nr)):=bnd (bnd (bY t 0 ⟨#[41]⟩) (fun c=>seq (cond c (jB t) (ret ())) (fC t T ⟨#[41]⟩ fu))) (fun ks=>ret (ks.map pf))
theorem Gs {t:Tk} {i:Nat}:(∀F j,jk t (fun n=>xu (gG t n 0)) ⟨#[44]⟩ ⟨#[41]⟩ false false i (.inl (F,j))→Ev (fun n=>yD t (gG t n 0) n) ⟨i,0,0⟩ (F,⟨j,0,0⟩))∧∀p,jk t (fun n=>xu (gG t n 0)) ⟨#[44]⟩ ⟨#[41]⟩ false false i (.inr p)→Wr (fun n=>yD t (gG t n 0) n) ⟨i,0,0⟩ p:=by
 have R:=(mH (t:=t) (en:=⟨#[41]⟩) (X:=fun n=>gG t n 0) (fun n=>dM _ _ _)).sm (lit) (lit) (i:=i)
 cases hc:au t i 0 0 ⟨#[41]⟩
 ·have e:∀r,jk t (fun n=>xu (gG t n 0)) ⟨#[44]⟩ ⟨#[41]⟩ false false i r→(∀G j',r=.inl (G,j')→∃G0,G=G0.map pf∧jk t (fun n=>gG t n 0) ⟨#[44]⟩ ⟨#[41]⟩ false false i (.inl (G0,j')))∧∀p,r=.inr p→jk t (fun n=>gG t n 0) ⟨#[44]⟩ ⟨#[41]⟩ false false i (.inr p):=by
   rintro r (⟨h1,_,_⟩|⟨y,j,h1,h2,h3⟩|⟨p,h1,h2,rfl⟩)
   ·exact absurd h1 (by decide)
   ·obtain⟨y0,hy,rfl⟩:=Me h2
    obtain⟨k1,k2⟩:=h3.unmap [y0] rfl
    refine⟨fun G j' e=>?_,fun p e=>.some h1 hy (k2 p e)⟩
    obtain⟨G0,e1,e2⟩:=k1 G j' e
    exact⟨G0,e1,.some h1 hy e2⟩
   ·refine⟨fun G j' e=>by simp at e,fun p e=>?_⟩
    rw[←Sum.inr.inj e]
    exact .aR h1 (Mg h2)
  refine⟨fun F j h=>?_,fun p h=>?_⟩
  ·obtain⟨G0,rfl,h2⟩:=(e _ h).1 F j rfl
   exact Ev.ak (Ev.ak aI (Ev.seq (Ev.no hc Ev.ret') (Ev.ak (dn hc) (Ev.no rfl (R.1 G0 j h2))))) Ev.ret'
  ·exact Wr.fst (Wr.snd aI (Wr.o8 (Ev.no hc Ev.ret') (Wr.snd (dn hc) (Wr.no rfl (R.2 p ((e _ h).2 p rfl)))))) (fun _ _=>Sy.ret)
 ·obtain⟨y,hy⟩:=abn hc
  have hy2:Ev (fun n=>xu (gG t n 0)) ⟨i,0,0⟩ (pf y,⟨i,4,t.pos i⟩):=Ev.ak hy Ev.ret'
  refine⟨fun F j h=>?_,fun p h=>?_⟩
  ·rcases h with⟨h1,_,_⟩|⟨y3,j3,h1,h2,h3⟩|⟨p,h1,h2,h3⟩
   ·exact absurd h1 (by decide)
   ·have:=h2.one hy2
    simp at this
   ·simp at h3
  ·rcases h with⟨h1,_,_⟩|⟨y3,j3,h1,h2,h3⟩|⟨p3,h1,h2,h3⟩
   ·exact absurd h1 (by decide)
   ·have:=h2.one hy2
    simp at this
   ·have e1:=(h2.ev hy2).2
    rw[Sum.inr.inj h3,←e1]
    exact Wr.fst (Wr.snd aI (Wr.sq (Wr.yes hc u7) (fun _=>aA))) (fun _ _=>Sy.ret)
theorem Mf.qg {w W:World} {rb tb i j:Nat} {cap:Cp} {t:Tk} {g:Prop} {L:List (Nat × Array Value)} {T:List (List Value)} {kv:Value} {vs:List (List Value)} {X V:List (List Nr)} {ki po n m:Int} {na:ByteArray} {v:Value} (q:Mf w rb tb cap t i g W j L ((ah ki po n m na v).toList::T) kv vs X V):0≤po∧po≤7000:=by
 obtain⟨h,ha⟩:=q.z.all
 have:=ha _ (.inr (List.mem_cons_self ..))
 cases h with
 |zero=>exact this.elim
 |succ h=>
  obtain⟨kind,pos,n',m',name,kv',vs',e,_,hp,_⟩:=this
  simp at e
  rw[e.2.1]
  exact hp
theorem adV {y:List Nr} {p:Int} (h:hp y=p):nd 5 p 0 0 ⟨#[]⟩ [y]=pf y:=by
 unfold pf
 rw[h]
def BH (t:Tk) (T:GP (List Nr)) (fu:Nat):GP (List Nr):=bnd (dh t) (fun q=>bnd (bG t) (fun vs=>bnd (bY t 0 ⟨#[40]⟩) (fun DI=>cond DI (seq (aM t ⟨#[40]⟩) (bnd (yD t T fu) (fun ks=>ret (nd 4 q 0 0 vs ks)))) (ret (nd 4 q 0 0 vs [])))))
theorem BI {t:Tk} {T:GP (List Nr)} {fu:Nat}:lN t T fu=BH t T fu:=by
 unfold lN BH yD seq
 simp only[bU,gB,rY]
 rfl
theorem adW {N:Nat} (hT:bH 70 N (fun t n=>gG t n 0)) {w:World} {rb tb i:Nat} {cap:Cp} {t:Tk} (h:Rd w rb tb cap t i 0 0) (hN:t.len - i≤N):
 Calls Tryz.prog 192 #[.pointer (some ⟨rb,0,none⟩)] w (aP w rb tb cap t i True (fun n=>xu (gG t n 0))):=by
 have hl:=h.l
 have aL:=h.eP
 go_enter Tryz.func192,Tryz.ntmps192
 have q:=Mf.start h
 go_wp2_with fail
 refine(q.ne' (sz w) (aJ)).nd (fun hr=>hT hr hN) (fun w' p hk hw=>⟨rfl,.inr ((q.ne' (sz w) (aJ)).aR hk (Wr.fst hw (fun _ _=>Sy.ret)))⟩) ?_
 clear q
 intro w1 x1 i1 y1 hl1 m1 q
 have F:=q.f1
 have hpb:=q.qg
 have HPE:Hid (hp y1=x1.p):=(OG q.fT.head).2
 go_wp2_with fail
 go_light
 refine Mf.rt ((q.ne' (sz w1) (x1.a)).l1 (sz w1+1) 5 x1.p 0 0 ⟨#[]⟩ hpb) Tryz.results192 1 (by rw[adV HPE.out];exact Ev.ak m1 Ev.ret') ?_
 simp[bC,World.setCell_alloc_past,F,Nat.lt_succ_of_lt]
theorem Sb {N:Nat} (hT:bH 70 N (fun t n=>gG t n 0)) {w:World} {rb tb i:Nat} {cap:Cp} {t:Tk} (h:Rd w rb tb cap t i 0 0) (hN:t.len - i≤N+1):
 Calls Tryz.prog 139 #[.pointer (some ⟨rb,0,none⟩)] w (aP w rb tb cap t i True (fun n=>lN t (gG t n 0) n)):=by
 have hl:=h.l
 have aL:=h.eP
 go_enter Tryz.func139,Tryz.ntmps139
 have q:=Mf.start h
 go_wp2_with fail
 refine(q.ne' (sz w) (aJ)).lf (dx · 4) ?_
 clear q
 intro w1 q
 have F:=q.f1
 go_wp2_with fail
 refine(q.ne' (sz w1) (nk 4 (t.pos i) nl)).nm (kD ·) (fun w' p hk hw=>⟨rfl,.inr ((q.ne' (sz w1) (nk 4 (t.pos i) nl)).aR hk (by simp only[BI];unfold BH yD;exact wrt))⟩) ?_
 clear q F
 intro w2 s2 i2 hs2 hl2 m2 q
 have F:=q.f2
 go_wp2_with fail
 refine(q.jm s2).et (cO · _ (ask)) ?_
 clear q F
 intro w3 b3 i3 eu m3 q
 have F:=q.f2
 go_wp2_with fail
 ·have hb3:au t i2 0 0 ⟨#[40]⟩=true:=eu.jE.symm.trans ‹_›
  obtain rfl:=(eu.yes ‹_›).1
  have HB3:=aD hb3
  clear hb3 eu
  go_wp2_with fail
  refine q.lf (fun _=>Ed _) ?_
  clear q F
  intro w4 q
  have F:=q.f2
  go_wp2_with fail
  refine q.li (fun hr=>oN hr (mm:=fun n=>yD t (gG t n 0) n) (ask) (fun _=>ask) (fun _=>lit) abl Gs.1 Gs.2 (fun{w' j} hr' hj=>(by have h1:=hr'.lt;have h2:=q.go trivial;simpa using adW hT hr' (by omega)))) (fun w' p hk hw=>⟨rfl,.inr (q.aR hk (by have hb3:=HB3.out;simp only[BI];unfold BH;exact wrt))⟩) ?_
  clear q F
  intro w5 zY yj ng i5 V5 hl5 m5 q
  have F:=q.f2
  have mq:ng.length≤6001:=by have:=hl5.out.2;have:=q.st.rd.lt;have:=h.good.few;omega
  go_wp2_with fail
  go_light
  exact Mf.rt ((q.fE (.slice zY ng.length yj)).fo 4 (t.pos i) 0 0 s2 (by omega) aL hs2) Tryz.results139 1 (by have hb3:=HB3.out;simp only[BI];unfold BH;exact bS)
 ·have hb3:au t i2 0 0 ⟨#[40]⟩=false:=eu.jE.symm.trans ‹_›
  obtain rfl:i2=i3:=(eu.no ‹_›).symm
  go_wp2_with fail
  go_light
  exact Mf.rt (q.lk 4 (t.pos i) 0 0 s2 aL hs2) Tryz.results139 1 (by simp only[BI];unfold BH;exact bS)
end
end Go.Proofs.YtdplogkmkgekdaaGreatDoor.Pj
