/- The project's parser: closures. -/
import Derived.Test.YtdplogkmkgekdaaGreatDoorPkzr
import Derived.Test.YtdplogkmkgekdaaGreatDoorPkb
import Derived.Test.YtdplogkmkgekdaaGreatDoorTypes
set_option linter.all false
set_option maxRecDepth 100000
set_option maxHeartbeats 4000000
namespace Go.Proofs.YtdplogkmkgekdaaGreatDoor.Pj
open Go.RowKit
theorem adX {N:Nat} (hT:bH 70 N (fun t n=>gG t n 0)) {w:World} {rb tb i:Nat} {cap:Cp} {t:Tk} (h:Rd w rb tb cap t i 0 0) (hN:t.len - i≤N+1) (hb:au t i 0 0 ⟨#[101,110,117,109]⟩=true):
 Calls Tryz.prog 62 #[.pointer (some ⟨rb,0,none⟩)] w (aP w rb tb cap t i True (fun n=>seq (dK 1) (lX t (gG t n 0) (t.pos i) 0 n))):=by
 have hl:=h.l
 have aL:=h.eP
 have HB:=aD hb
 clear hb
 go_enter Tryz.func62,Tryz.ntmps62
 have q:=Mf.start h
 go_wp2_with fail
 refine(q.ne' (sz w) (aJ)).lf (dx · 3) ?_
 clear q
 intro w1 q
 have F:=q.f1
 go_wp2_with fail
 refine(q.ne' (sz w1) (nk 3 (t.pos i) nl)).wy (dw · _ (ask)) HB.out ?_
 clear q F
 intro w2 q
 have F:=q.f2
 go_wp2_with fail
 refine q.nm (kD ·) (fun w' p hk hw=>⟨rfl,.inr (q.aR hk (by simp only[wI];unfold wH bK lN;exact wrt))⟩) ?_
 clear q F
 intro w3 s3 i3 hs3 hl3 m3 q
 have F:=q.f2
 have Sc:Hid (∀p,Wr (fun n=>iT t false n) ⟨i3,0,0⟩ p→Wr (fun n=>seq (dK 1) (lX t (gG t n 0) (t.pos i) 0 n)) ⟨i,0,0⟩ p):=fun p hw=>(by simp only[wI];unfold wH bK lN;exact wrt)
 go_upto_region 5 with fail
 go_cut [] (fun wx=>∃(i4:Nat) (y4:List Nr) (v:Value) (vs:List (List Value)),Ev (fun n=>iT t false n) ⟨i3,0,0⟩ (y4,⟨i4,0,0⟩)∧Hid (vs.length=1)∧Mf w rb tb cap t i True wx i4 [(sz w1,ah 3 (t.pos i) 1 0 s3 v),(sz w,aJ)] [] v vs [] [y4])
 case first=>
  go_wp2_with fail
  go_region_law (first|(refine q.as (sz w4) (by simp) ?_;clear q F;intro w5 xB xC q;have F:=q.f2)|(replace q:=((q.jm s3).pV 1).drew;go_simp;refine q.nn (fun hr=>Eo hr) (fun w' p hk hw=>⟨rfl,.inr (q.aR hk (Sc.out _ hw))⟩) ?_;clear q F;intro w4 x4 i4 y4 hl4 m4 q;have F:=q.f2))
  all_goals
   go_wp2_with fail
   go_meet
   exact⟨i4,y4,_,_,m4,(by simp:_=_),q.fE (.slice xB (0+1) xC)⟩
 case rest=>
  clear F q
  obtain⟨i4,y4,v,vs,m4,qz,q⟩:=hcut
  obtain⟨w5,hw⟩:∃x,x=wc:=⟨_,rfl⟩
  subst hw
  obtain⟨xB,xC,rfl⟩:=q.shape
  have F:=q.f2
  go_wp2_with fail
  refine q.wn (dw · _ (ask)) (fun w' hk hw=>⟨rfl,.inr (q.aR hk (by simp only[wI];unfold wH bK lN;exact wrt))⟩) ?_
  clear q F
  intro w6 m5 q
  have F:=q.f2
  have R5:Hid (∀p,Wr (fun n=>loop (bK t (lN t (gG t n 0) n) ⟨#[125]⟩) n []) ⟨i4+1,0,0⟩ p→Wr (fun n=>seq (dK 1) (lX t (gG t n 0) (t.pos i) 0 n)) ⟨i,0,0⟩ p):=fun p hw=>(by simp only[wI];unfold wH;exact wrt)
  have R6:Hid (∀m,i4+1≤m→m<t.len→t.len - m≤N):=fun m h1 h2=>(by have:=q.go trivial;omega)
  go_wp2_with fail
  go_region_law (first|(refine q.Px R7 Jm (by have:=qz.out;omega) (AU h.good.few Jo.out.2.1 q.st.rd.lt) ?_;clear q F Jm;intro w9 mh mo q;have F:=q.f2)|(go_simp;refine q.lh (fun hr=>oN hr (mm:=fun n=>loop (bK t (lN t (gG t n 0) n) ⟨#[125]⟩) n []) (ask) (fun _=>ask) (fun _=>lit) abk (pq (fun n=>Md (dM _ _ _))).1 (pq (fun n=>Md (dM _ _ _))).2 (fun{w' j} hr' hj=>app0 (Sb hT hr' (Nat.le_succ_of_le (R6.out _ hj hr'.lt))))) (fun w' p hk hw=>⟨rfl,.inr (q.aR hk (R5.out _ hw))⟩) ?_;clear q F;intro w8 ae4 ae5 Ab i6 V6 Jo R7 Jm m6 q;have F:=q.f2)|(replace q:=q.drew;go_simp;refine q.lf (fun _=>Ef _) ?_;clear q F;intro w7 q;have F:=q.f2))
  all_goals
   go_wp2_with fail
   go_light
   exact Mf.rt ((q.fE (.slice mh (vs.length+Ab.length) mo)).fo 3 (t.pos i) 1 0 s3 (by have:=Jo.out.2.1;have:=q.st.rd.lt;have:=h.good.few;have:=qz.out;simp;omega) aL hs3) Tryz.results62 1 (by simp only[wI];unfold wH;exact bS)
section
variable {w:World} {rb tb i:Nat} {cap:Cp} {t:Tk}
theorem Hf {s:ByteArray} (h:pU 3 s):Lib.contains s.data.toList [58,58]=s.toList.contains 58:=by
 obtain⟨ns,a1,a2,a3,a4⟩:=h
 have e1:s.toList=s.data.toList:=ByteArray.toList_eq s
 rw[e1] at a4⊢
 unfold Lib.contains
 rcases Lib.index_spec s.data.toList [58,58] with⟨hi,hn⟩|⟨i,hi,hle,ho,_⟩
 ·rw[hi]
  have key:∀x m r,ns=x::m::r→False:=by
   rintro x m r rfl
   have e2:s.data.toList=x++58::58::tq (m::r):=a4
   have h1:=hn x.length (by rw[e2];simp)
   unfold Lib.occAt at h1
   rw[e2] at h1
   simp at h1
  match ns,a1,a3,a4,key with
  |[],a1,_,_,_=>exact absurd rfl a1
  |[n],_,a3,a4,_=>
   have h2:=(a3 n (by simp)).2
   have e2:s.data.toList=n:=a4
   rw[e2]
   simpa using h2
  |x::m::r,_,_,_,key=>exact(key x m r rfl).elim
 ·rw[hi]
  unfold Lib.occAt at ho
  have h1:(58:UInt8)∈s.data.toList:=by
   cases hd:s.data.toList.drop i with
   |nil=>rw[hd] at ho;simp at ho
   |cons y l=>
    rw[hd] at ho
    simp at ho
    have:y∈s.data.toList.drop i:=by rw[hd];simp
    rw[←ho.1] at this
    exact List.mem_of_mem_drop this
  have h2:s.data.toList.contains 58=true:=by simpa using h1
  rw[h2]
  simp
theorem Qa (h:Rd w rb tb cap t i 0 0) {s:ByteArray} (hs:s.size≤20000) (ho:pU 3 s):Calls Tryz.prog 203 #[.string s,.string ⟨#[58,58]⟩] w fun e w'=>e=.returned (.bool (s.toList.contains 58))∧Below w.heap.size w w':=by
 obtain⟨m,hm⟩:=h.g0.ml
 refine(Tryz.strings_Contains s ⟨#[58,58]⟩ m w (by omega) hm).mono ?_
 rintro e w' ⟨rfl,rfl⟩
 exact⟨by rw[←Hf ho],Below.refl _ _⟩
theorem Mf.np {w W:World} {rb tb i j:Nat} {cap:Cp} {t:Tk} {g:Prop} {L:List (Nat × Array Value)} {T:List (List Value)} {kv:Value} {vs:List (List Value)} {X V:List (List Nr)} {f:Nat} {args:Array Value} {Q:Ending→World→Prop} {ms:Nat→GP ByteArray} {B most:Nat} (q:Mf w rb tb cap t i g W j L T kv vs X V) (h:Rd W rb tb cap t j 0 0→Calls Tryz.prog f args W fun e w'=>(∃x i',e=.returned (.string x)∧x.size≤B∧Nx W rb tb cap t j 0 True w' i' 0 0∧pU most x∧Ev ms ⟨j,0,0⟩ (x,⟨i',0,0⟩))∨tK W rb ⟨j,0,0⟩ ms e w') (KB:∀w' p,Kp W.heap.size rb W w'→Wr ms ⟨j,0,0⟩ (p:Nat)→Q (iQ p) w') (K:∀w' x i',x.size≤B→Hid (j<i')→Hid (pU most x)→Ev ms ⟨j,0,0⟩ (x,⟨i',0,0⟩)→Mf w rb tb cap t i True w' i' L T kv vs X V→Q (.returned (.string x)) w'):Calls Tryz.prog f args W Q:=(h q.st.rd).mono fun e w' p=>by
 rcases p with⟨x,i',rfl,hs,hx,ho,hm⟩|⟨p,rfl,hk,hw⟩
 ·exact K w' x i' hs (hx.go trivial rfl) ho hm (q.yh hx)
 ·exact KB w' p hk hw
def zD (t:Tk) (Q:GP (List Nr)) (fu:Nat):GP (List (List Nr)):=bnd (bY t 0 ⟨#[41]⟩) (fun c=>seq (cond c (jB t) (ret ())) (fC t Q ⟨#[41]⟩ fu))
theorem Jp {t:Tk} {X:Nat→GP (List Nr)} (hX:∀n,Sy (X n)) {i:Nat} (hrp:au t i 0 0 ⟨#[41]⟩=true→∃y,Ev X ⟨i,0,0⟩ (y,⟨i,4,t.pos i⟩)):(∀F j,jk t X ⟨#[44]⟩ ⟨#[41]⟩ false false i (.inl (F,j))→Ev (fun n=>zD t (X n) n) ⟨i,0,0⟩ (F,⟨j,0,0⟩))∧∀p,jk t X ⟨#[44]⟩ ⟨#[41]⟩ false false i (.inr p)→Wr (fun n=>zD t (X n) n) ⟨i,0,0⟩ p:=by
 have R:=(mH (t:=t) (en:=⟨#[41]⟩) hX).sm (lit) (lit) (i:=i)
 cases hc:au t i 0 0 ⟨#[41]⟩
 ·refine⟨fun F j h=>?_,fun p h=>?_⟩
  ·exact Ev.ak aI (Ev.seq (Ev.no hc Ev.ret') (Ev.ak (dn hc) (Ev.no rfl (R.1 F j h))))
  ·exact Wr.snd aI (Wr.o8 (Ev.no hc Ev.ret') (Wr.snd (dn hc) (Wr.no rfl (R.2 p h))))
 ·obtain⟨y,hy⟩:=hrp hc
  refine⟨fun F j h=>?_,fun p h=>?_⟩
  ·rcases h with⟨h1,_,_⟩|⟨y3,j3,h1,h2,h3⟩|⟨p,h1,h2,h3⟩
   ·exact absurd h1 (by decide)
   ·have:=h2.one hy
    simp at this
   ·simp at h3
  ·rcases h with⟨h1,_,_⟩|⟨y3,j3,h1,h2,h3⟩|⟨p3,h1,h2,h3⟩
   ·exact absurd h1 (by decide)
   ·have:=h2.one hy
    simp at this
   ·have e1:=(h2.ev hy).2
    have sX:=hX
    rw[Sum.inr.inj h3,←e1]
    refine Wr.snd aI (Wr.sq (Wr.yes hc u7) (fun n=>?_))
    have:=hX n
    exact aA
def xD (t:Tk) (Q:GP (List Nr)) (p:Int) (fu:Nat):GP (List Nr):=bnd (iq t fu 3) (fun s=>bnd (gN) (fun ok=>cond (ok&&!(s.toList.contains 58)) (ret (nd 50 p 0 0 s [])) (bnd (bY t 0 ⟨#[40]⟩) (fun Y2=>cond Y2 (seq (aM t ⟨#[40]⟩) (bnd (zD t Q fu) (fun ks=>ret (nd 54 p 0 0 s ks)))) (ret (nd 54 p 0 0 s []))))))
theorem Jq {N:Nat} (hQ:bH 86 N (fun t n=>gG t n 5)) {w:World} {rb tb i:Nat} {cap:Cp} {t:Tk} (h:Rd w rb tb cap t i 0 0) (hN:t.len - i≤N+1):
 Calls Tryz.prog 163 #[.pointer (some ⟨rb,0,none⟩)] w (aP w rb tb cap t i True (fun n=>xD t (gG t n 5) (t.pos i) n)):=by
 have hl:=h.l
 have aL:=h.eP
 go_enter Tryz.func163,Tryz.ntmps163
 have q:=Mf.start h
 go_wp2_with fail
 refine(q.ne' (sz w) (aJ)).lf (dx · 50) ?_
 clear q
 intro w1 q
 have F:=q.f1
 go_wp2_with fail
 refine(q.ne' (sz w1) (nk 50 (t.pos i) nl)).np (Ux · 3 (by decide) (by decide)) (fun w' p hk hw=>⟨rfl,.inr ((q.ne' (sz w1) (nk 50 (t.pos i) nl)).aR hk (by unfold xD zD;exact wrt))⟩) ?_
 clear q F
 intro w2 s2 i2 hs2 hl2 ho2 m2 q
 have F:=q.f2
 go_wp2_with fail
 refine(q.jm s2).lf (fun hr=>Qa hr hs2 ho2.out) ?_
 clear q F
 intro w3 q
 have F:=q.f2
 cases hct:s2.toList.contains 58
 ·have Qb:=aD hct
  go_wp2_with fail
  go_light
  exact Mf.rt (q.lk 50 (t.pos i) 0 0 s2 aL hs2) Tryz.results163 1 (by have hct:=Qb.out;unfold xD;exact Ev.ak m2 (Ev.ak bT (Ev.yes (dR rfl (uR hct)) Ev.ret')))
 ·have Qb:=aD hct
  go_wp2_with fail
  refine(q.IK 54).et (cO · _ (ask)) ?_
  clear q F
  intro w4 b4 i4 nC m4 q
  have F:=q.f2
  go_wp2_with fail
  ·have hb3:au t i2 0 0 ⟨#[40]⟩=true:=nC.jE.symm.trans ‹_›
   obtain rfl:=(nC.yes ‹_›).1
   have HB3:=aD hb3
   clear hb3 nC
   go_wp2_with fail
   refine q.lf (fun _=>Ed _) ?_
   clear q F
   intro w5 q
   have F:=q.f2
   go_wp2_with fail
   refine q.li (fun hr=>oN hr (mm:=fun n=>zD t (gG t n 5) n) (ask) (fun _=>ask) (fun _=>lit) UG (Jp (fun n=>dM _ _ _) P9).1 (Jp (fun n=>dM _ _ _) P9).2 (fun{w' j} hr' hj=>(by have h1:=hr'.lt;have h2:=q.go trivial;simpa using hQ hr' (by omega)))) (fun w' p hk hw=>⟨rfl,.inr (q.aR hk (by unfold xD;exact Wr.snd m2 (Wr.snd bT (Wr.no (jf (vT Qb.out)) (Wr.snd aI (Wr.yes HB3.out (Wr.o8 (bP HB3.out) (Wr.fst hw (fun _ _=>Sy.ret)))))))))⟩) ?_
   clear q F
   intro w6 mh mo Ab i6 V6 mq m6 q
   have F:=q.f2
   have zZ:Ab.length≤6001:=by have:=mq.out.2;have:=q.st.rd.lt;have:=h.good.few;omega
   go_wp2_with fail
   go_light
   exact Mf.rt ((q.fE (.slice mh Ab.length mo)).fo 54 (t.pos i) 0 0 s2 (by omega) aL hs2) Tryz.results163 1 (by unfold xD;exact Ev.ak m2 (Ev.ak bT (Ev.no (jf (vT Qb.out)) (Ev.ak aI (Ev.yes HB3.out (Ev.seq (bP HB3.out) (Ev.ak m6 Ev.ret')))))))
  ·have hb3:au t i2 0 0 ⟨#[40]⟩=false:=nC.jE.symm.trans ‹_›
   obtain rfl:i2=i4:=(nC.no ‹_›).symm
   have HB3:=aD hb3
   go_wp2_with fail
   go_light
   exact Mf.rt (q.lk 54 (t.pos i) 0 0 s2 aL hs2) Tryz.results163 1 (by unfold xD;exact Ev.ak m2 (Ev.ak bT (Ev.no (jf (vT Qb.out)) (Ev.ak aI (Ev.no HB3.out Ev.ret')))))
end
section
variable {w w':World} {rb tb i:Nat} {cap:Cp} {t:Tk} {must:Prop} {m mm:Nat→GP (List Nr)} {e:Ending}
theorem aP.to (h:aP w rb tb cap t i must mm e w') (hE:∀r,Ev mm ⟨i,0,0⟩ r→Ev m ⟨i,0,0⟩ r) (hW:∀p,Wr mm ⟨i,0,0⟩ p→Wr m ⟨i,0,0⟩ p):aP w rb tb cap t i must m e w':=by
 rcases h with⟨x1,x2,x3,x4,x5,x6,x7,x8,i',he,hx,hn,y,hy,hm⟩|⟨p,he,hk,hw⟩
 ·exact .inl ⟨x1,x2,x3,x4,x5,x6,x7,x8,i',he,hx,hn,y,hy,hE _ hm⟩
 ·exact .inr ⟨p,he,hk,hW _ hw⟩
theorem fG {s:ByteArray} {q:Int} (h:bf t i 0 0 q=true) (h5:q≠5) (h3:q≠3):au t i 0 0 s=false:=by
 cases hb:au t i 0 0 s
 ·rfl
 ·rw[sj hb h5 h3] at h
  exact absurd h (by decide)
theorem Gt {most:Nat} (hk:bf t i 0 0 2=false):Wr (fun n=>iq t n most) ⟨i,0,0⟩ (t.pos i):=Wr.fst (LV hk) (fun _ _=>aA)
theorem vB {es:List gZ} {e:gZ} (h:eH t i es=some e):au t i 0 0 e.txt=true:=by
 unfold eH at h
 exact List.find?_some (p:=fun(e:gZ)=>au t i 0 0 e.txt) h
theorem bI {es:List gZ} (h:eH t i es=none):∀e∈es,au t i 0 0 e.txt=false:=fun e he=>by
 have:=List.find?_eq_none.1 h e he
 simpa using this
theorem NS {W:World} {bd a n:Nat} {es:List gZ} (hbd:bd≤W.heap.size) (ha:mY W bd a es) (Dl:∀e∈es,e.txt∈gL) (hl:es.length≤10) (hn:n=es.length):uT (W.alloc (.cells #[.slice (some ⟨a,0,none⟩) n n] 72)) bd W.heap.size [(a,es)]:=by
 subst hn
 refine⟨_,heap_alloc_new W _,fun k a2 es2 h=>?_⟩
 match k with
 |0=>
  obtain⟨rfl,rfl⟩:a=a2∧es=es2:=by simpa using h
  exact⟨rfl,ha.of (fun k hk=>Below.heap_alloc _ _ _ (by omega)),Dl,hl⟩
 |k+1=>simp at h
theorem rH {W:World} {n a:Nat} {es:List gZ} (h:Rd W rb tb cap t i 0 0) (ha:mY W cap.bd a es) (Dl:∀e∈es,e.txt∈gL) (hl:es.length≤10) (hn:n=es.length) (HI:∀e∈es,fZ e.fn) (H:∀e w' ts,eH t i es=some e→nQ w' cap.bd e ts→Rd w' rb tb cap t i 0 0→Calls Tryz.prog e.fn (#[.pointer (some ⟨rb,0,none⟩)]++ts) w' (aP w' rb tb cap t i True m)) (H0:eH t i es=none→Wr m ⟨i,0,0⟩ (t.pos i)):
 Calls Tryz.prog 151 #[.pointer (some ⟨rb,0,none⟩),.slice (some ⟨W.heap.size,0,none⟩) 1 1] (W.alloc (.cells #[.slice (some ⟨a,0,none⟩) n n] 72)) (aP (W.alloc (.cells #[.slice (some ⟨a,0,none⟩) n n] 72)) rb tb cap t i True m):=by
 have e1:([(a,es)]:List (Nat × List gZ)).flatMap (·.2)=es:=by simp
 refine UC (h.alloc _) (NS (by have:=h.bl;have:=h.l;omega) ha Dl hl hn) rfl (by decide) ?_ ?_ ?_
 ·rw[e1];exact HI
 ·rw[e1];exact H
 ·rw[e1];exact H0
end
theorem nQ.bare {w:World} {bd:Nat} {e:gZ} {ts:Array Value} (h:nQ w bd e ts) (hf:e.fn=144):∃b1 b2,b1<bd∧b2<bd∧ts=#[.pointer (some ⟨b1,0,none⟩),.pointer (some ⟨b2,0,none⟩)]∧w.heap[b1]? =some (.cells #[.int .i64 e.bk] 3 (0,0))∧w.heap[b2]? =some (.cells #[.int .i64 e.bn] 3 (0,0)):=by
 unfold nQ at h
 rwa [if_pos hf] at h
theorem nQ.plain {w:World} {bd:Nat} {e:gZ} {ts:Array Value} (h:nQ w bd e ts) (hf:e.fn≠144):ts=#[]:=by
 unfold nQ at h
 rwa [if_neg hf] at h
theorem abo {N:Nat} (hT:bH 70 N (fun t n=>gG t n 0)) {w:World} {rb tb i:Nat} {cap:Cp} {t:Tk} (h:Rd w rb tb cap t i 0 0) (hN:t.len - i≤N+1) {e:gZ} {ts:Array Value} (he:eH t i qV=some e) (hc:nQ w cap.bd e ts):Calls Tryz.prog e.fn (#[.pointer (some ⟨rb,0,none⟩)]++ts) w (aP w rb tb cap t i True (fun n=>iN t (gG t n 0) n)):=by
 have hb:=vB he
 have hm:=pO he
 have hlt:=(iY h.good h.lt hb).2
 clear he
 simp only[qV,List.mem_cons,List.not_mem_nil,or_false] at hm
 rcases hm with rfl|rfl|rfl|rfl|rfl|rfl
 ·replace hb:au t i 0 0 ⟨#[105,110,116]⟩=true:=hb
  obtain⟨b1,b2,l1,l2,rfl,c1,c2⟩:=hc.bare rfl
  refine(uS h (by have:=h.bl;omega) (by have:=h.bl;omega) c1 c2 hlt).mono fun e w' p=>p.to (fun r hr=>?_) (fun p hw=>?_)
  all_goals
   have n1:=aF hb (b:=⟨#[98,111,111,108]⟩) (lit)
   have n2:=aF hb (b:=⟨#[40]⟩) (lit)
   have n3:=aF hb (b:=⟨#[38]⟩) (lit)
   have n4:=aF hb (b:=⟨#[38,38]⟩) (lit)
   have n5:=aF hb (b:=⟨#[102,110]⟩) (lit)
  ·replace hr:=Ev.cg (m':=fun _=>ret (nd 13 (t.pos i) 0 0 E0 [])) (s':=⟨i+1,0,0⟩) hr (fun n=>rfl)
   unfold iN
   exact bS
  ·replace hw:=Wr.cg (m':=fun _=>ret (nd 13 (t.pos i) 0 0 E0 [])) (s':=⟨i+1,0,0⟩) hw (fun n=>rfl)
   unfold iN
   exact wrt
 ·replace hb:au t i 0 0 ⟨#[98,111,111,108]⟩=true:=hb
  obtain⟨b1,b2,l1,l2,rfl,c1,c2⟩:=hc.bare rfl
  refine(uS h (by have:=h.bl;omega) (by have:=h.bl;omega) c1 c2 hlt).mono fun e w' p=>p.to (fun r hr=>?_) (fun p hw=>?_)
  all_goals
   have n0:=aF hb (b:=⟨#[105,110,116]⟩) (lit)
   have n2:=aF hb (b:=⟨#[40]⟩) (lit)
   have n3:=aF hb (b:=⟨#[38]⟩) (lit)
   have n4:=aF hb (b:=⟨#[38,38]⟩) (lit)
   have n5:=aF hb (b:=⟨#[102,110]⟩) (lit)
  ·replace hr:=Ev.cg (m':=fun _=>ret (nd 14 (t.pos i) 0 0 E0 [])) (s':=⟨i+1,0,0⟩) hr (fun n=>rfl)
   unfold iN
   exact bS
  ·replace hw:=Wr.cg (m':=fun _=>ret (nd 14 (t.pos i) 0 0 E0 [])) (s':=⟨i+1,0,0⟩) hw (fun n=>rfl)
   unfold iN
   exact wrt
 ·replace hb:au t i 0 0 ⟨#[102,110]⟩=true:=hb
  obtain rfl:=hc.plain (by decide)
  refine(aeY hT h hN hb).mono fun e w' p=>p.to (fun r hr=>?_) (fun p hw=>?_)
  all_goals
   have n0:=aF hb (b:=⟨#[105,110,116]⟩) (lit)
   have n1:=aF hb (b:=⟨#[98,111,111,108]⟩) (lit)
   have n2:=aF hb (b:=⟨#[40]⟩) (lit)
   have n3:=aF hb (b:=⟨#[38]⟩) (lit)
   have n4:=aF hb (b:=⟨#[38,38]⟩) (lit)
  ·replace hr:=Ev.cg (m':=fun n=>xP t (gG t n 0) (t.pos i) n) (s':=⟨i+1,0,0⟩) hr (fun n=>rfl)
   unfold xP at hr
   unfold iN
   exact bS
  ·replace hw:=Wr.cg (m':=fun n=>xP t (gG t n 0) (t.pos i) n) (s':=⟨i+1,0,0⟩) hw (fun n=>rfl)
   unfold xP at hw
   unfold iN
   exact wrt
 ·replace hb:au t i 0 0 ⟨#[38]⟩=true:=hb
  obtain rfl:=hc.plain (by decide)
  refine(Pm hT h hN (fun _=>hb)).mono fun e w' p=>p.to (fun r hr=>?_) (fun p hw=>?_)
  all_goals
   have n0:=aF hb (b:=⟨#[105,110,116]⟩) (lit)
   have n1:=aF hb (b:=⟨#[98,111,111,108]⟩) (lit)
   have n2:=aF hb (b:=⟨#[40]⟩) (lit)
   have n4:=aF hb (b:=⟨#[38,38]⟩) (lit)
   have n5:=aF hb (b:=⟨#[102,110]⟩) (lit)
  ·skip
   unfold iN
   exact bS
  ·skip
   unfold iN
   exact wrt
 ·replace hb:au t i 0 0 ⟨#[38,38]⟩=true:=hb
  obtain rfl:=hc.plain (by decide)
  refine(Pm hT h hN (fun e=>absurd (hb.symm.trans e) (by decide))).mono fun e w' p=>p.to (fun r hr=>?_) (fun p hw=>?_)
  all_goals
   have n0:=aF hb (b:=⟨#[105,110,116]⟩) (lit)
   have n1:=aF hb (b:=⟨#[98,111,111,108]⟩) (lit)
   have n2:=aF hb (b:=⟨#[40]⟩) (lit)
   have n3:=aF hb (b:=⟨#[38]⟩) (lit)
   have n5:=aF hb (b:=⟨#[102,110]⟩) (lit)
  ·skip
   unfold iN
   exact bS
  ·skip
   unfold iN
   exact wrt
 ·replace hb:au t i 0 0 ⟨#[40]⟩=true:=hb
  obtain rfl:=hc.plain (by decide)
  refine(aaQ hT h hN hb).mono fun e w' p=>p.to (fun r hr=>?_) (fun p hw=>?_)
  all_goals
   have n0:=aF hb (b:=⟨#[105,110,116]⟩) (lit)
   have n1:=aF hb (b:=⟨#[98,111,111,108]⟩) (lit)
   have n3:=aF hb (b:=⟨#[38]⟩) (lit)
   have n4:=aF hb (b:=⟨#[38,38]⟩) (lit)
   have n5:=aF hb (b:=⟨#[102,110]⟩) (lit)
  ·replace hr:=Ev.cg (m':=fun n=>bnd (fC t (gG t n 0) ⟨#[41]⟩ n) (fun ks=>ret (jv 15 (t.pos i) ks))) (s':=⟨i+1,0,0⟩) hr (fun n=>rfl)
   unfold iN
   exact bS
  ·replace hw:=Wr.cg (m':=fun n=>bnd (fC t (gG t n 0) ⟨#[41]⟩ n) (fun ks=>ret (jv 15 (t.pos i) ks))) (s':=⟨i+1,0,0⟩) hw (fun n=>rfl)
   unfold iN
   exact wrt
theorem ae9 {N:Nat} (hT:bH 70 N (fun t n=>gG t n 0)) {w:World} {rb tb i:Nat} {cap:Cp} {t:Tk} (h:Rd w rb tb cap t i 0 0) (hN:t.len - i≤N+1):
 Calls Tryz.prog 70 #[.pointer (some ⟨rb,0,none⟩)] w (aP w rb tb cap t i True (fun n=>iN t (gG t n 0) n)):=by
 have hl:=h.l
 have aL:=h.eP
 have jT:=nT
 cases hk:bf t i 0 0 2
 ·have hk0:((t.kind i:Int)==2)=false:=(fQ h.lt 2).symm.trans hk
  have HK:=aD hk
  clear hk
  go_enter Tryz.func70,Tryz.ntmps70
  have q:=Mf.start h
  go_wp2_with fail
  refine(q.ne' (sz w) (aJ)).lf (jD ·) ?_
  clear q
  intro w1 q
  have F:=q.f1
  have r3:=q.st.rd.r3
  go_wp2_with fail
  refine(q.alloc (.cells #[.slice (some ⟨cap.a2,0,none⟩) 6 6] 72)).nd (fun _=>rH q.st.rd q.st.rd.t2 Lf (by decide) rfl Ld (fun e w' ts he hc hr=>abo hT hr hN he hc) (fun hn=>(by have n0:au t i 0 0 ⟨#[105,110,116]⟩=false:=bI hn _ (List.getElem_mem (n:=0) (by decide));have n1:au t i 0 0 ⟨#[98,111,111,108]⟩=false:=bI hn _ (List.getElem_mem (n:=1) (by decide));have n2:au t i 0 0 ⟨#[102,110]⟩=false:=bI hn _ (List.getElem_mem (n:=2) (by decide));have n3:au t i 0 0 ⟨#[38]⟩=false:=bI hn _ (List.getElem_mem (n:=3) (by decide));have n4:au t i 0 0 ⟨#[38,38]⟩=false:=bI hn _ (List.getElem_mem (n:=4) (by decide));have n5:au t i 0 0 ⟨#[40]⟩=false:=bI hn _ (List.getElem_mem (n:=5) (by decide));have hw:=Gt (most:=2) HK.out;unfold iN;exact wrt))) (fun w' p hk hw=>⟨rfl,.inr (Mf.aR (q.alloc _) hk hw)⟩) ?_
  clear q F r3
  intro w2 x5 i5 y5 hl5 m5 q
  have F:=q.f1
  go_wp2_with fail
  go_light
  exact Mf.rt (q) Tryz.results70 0 (m5)
 ·have hk0:((t.kind i:Int)==2)=true:=(fQ h.lt 2).symm.trans hk
  have HK:=aD hk
  clear hk
  go_enter Tryz.func70,Tryz.ntmps70
  have q:=Mf.start h
  go_wp2_with fail
  refine(q.ne' (sz w) (aJ)).lf (jD ·) ?_
  clear q
  intro w3 q
  have F:=q.f1
  go_wp2_with fail
  refine q.nd (fun hr=>P5 hT hr hN) (fun w' p hk hw=>⟨rfl,.inr (q.aR hk (by
   have n0:au t i 0 0 ⟨#[105,110,116]⟩=false:=fG HK.out (by decide) (by decide)
   have n1:au t i 0 0 ⟨#[98,111,111,108]⟩=false:=fG HK.out (by decide) (by decide)
   have n2:au t i 0 0 ⟨#[40]⟩=false:=fG HK.out (by decide) (by decide)
   have n3:au t i 0 0 ⟨#[38]⟩=false:=fG HK.out (by decide) (by decide)
   have n4:au t i 0 0 ⟨#[38,38]⟩=false:=fG HK.out (by decide) (by decide)
   have n5:au t i 0 0 ⟨#[102,110]⟩=false:=fG HK.out (by decide) (by decide)
   unfold wK at hw
   unfold iN
   exact wrt))⟩) ?_
  clear q F
  intro w4 x5 i5 y5 hl5 m5 q
  have F:=q.f1
  go_wp2_with fail
  go_light
  exact Mf.rt (q) Tryz.results70 0 (by
   have n0:au t i 0 0 ⟨#[105,110,116]⟩=false:=fG HK.out (by decide) (by decide)
   have n1:au t i 0 0 ⟨#[98,111,111,108]⟩=false:=fG HK.out (by decide) (by decide)
   have n2:au t i 0 0 ⟨#[40]⟩=false:=fG HK.out (by decide) (by decide)
   have n3:au t i 0 0 ⟨#[38]⟩=false:=fG HK.out (by decide) (by decide)
   have n4:au t i 0 0 ⟨#[38,38]⟩=false:=fG HK.out (by decide) (by decide)
   have n5:au t i 0 0 ⟨#[102,110]⟩=false:=fG HK.out (by decide) (by decide)
   unfold wK at m5
   unfold iN
   exact bS)
theorem Sd {N:Nat} (hT:bH 70 N (fun t n=>gG t n 0)):bH 70 (N+1) (fun t n=>gG t n 0):=fun h hN=>(ae9 hT h hN).mono fun e w' p=>p.to (fun r hr=>hr.up (fun _=>rfl)) (fun p hw=>hw.up (fun _=>rfl))
section
variable {w W w':World} {rb tb i j:Nat} {cap:Cp} {t:Tk} {g:Prop} {L:List (Nat × Array Value)} {T:List (List Value)} {kv:Value} {vs:List (List Value)} {Ft Fv X V:List (List Nr)}
variable {ops:Array Oper} {rest:List Oper} {p:Oper} {act:Act} {S:Exit→Act→World→Prop} {sv xo:Operand} {ro:Option Addr} {rc rl:Nat} {Kk:Act→World→Prop} {Ee:Prop}
theorem Mf.as2 {kx px nx mx ky py ny my:Int} {ax ay:ByteArray} {vx vy:Value} {X1 X2:List Nr} (q:Mf w rb tb cap t i g W j L ((ah kx px nx mx ax vx).toList::(ah ky py ny my ay vy).toList::T) (.slice ro rl rc) vs (X1::X2::Ft) Fv) (ad:Nat) (hv:vs.length≤19000) (K:∀w' ao cp,Mf w rb tb cap t i g w' j L T (.slice ao (rl+2) cp) (vs++[(ah kx px nx mx ax vx).toList,(ah ky py ny my ay vy).toList]) Ft (Fv++[X1,X2])→Kk (act.put p.dst (.slice ao (rl+2) cp)) w') (hgd:p.guard=none:=by rfl) (ho:p.op=.call {callee:=.builtin .append,args:=#[sv,xo],argTypes:=#[22,22]}:=by rfl) (hs:act.eval sv=.slice ro rl rc:=by rfl) (hx:act.eval xo=.slice (some ⟨ad,0,none⟩) 2 2:=by rfl) (had:ad=W.heap.size:=by simp):if Region.wanted p (yielded ops act.tmps)=true then Oper.wp Tryz.prog p act (W.alloc (.cells (wB kx px nx mx ax vx ky py ny my ay vy) 28)) Kk S else Ee:=by
 subst had
 obtain⟨ro',rc',e⟩:=q.shape
 obtain⟨rfl,rfl,rfl⟩:ro=ro'∧rl=vs.length∧rc=rc':=by simpa using e
 have hcell:∀(j:Nat) (u:Value),([(ah kx px nx mx ax vx).toList,(ah ky py ny my ay vy).toList]:List (List Value)).flatten[j]? =some u→(W.alloc (.cells (wB kx px nx mx ax vx ky py ny my ay vy) 28)).cell? ((⟨W.heap.size,0,none⟩:Addr).add j)=some u:=by
  intro j u hj
  have hadd:(⟨W.heap.size,0,none⟩:Addr).add j=⟨W.heap.size,j,none⟩:=by unfold Addr.add;split<;>simp_all
  rw[hadd,cell_of_row _ W.heap.size j (wB kx px nx mx ax vx ky py ny my ay vy) 28 (0,0) (heap_alloc_new W _)]
  simpa using hj
 refine CQ hgd ho hs hx (Mf.vY (us:=[(ah kx px nx mx ax vx).toList,(ah ky py ny my ay vy).toList]) (U:=[X1,X2]) (q.alloc _) rfl hv (by simp) _ (.inr ⟨_,_,rfl,hcell⟩)) fun v' w' h=>?_
 obtain⟨ao,cp,rfl,q'⟩:=h
 exact K w' ao cp q'
end
theorem abp {N:Nat} (hT:bH 70 N (fun t n=>gG t n 0)) (hB:bH 75 N (fun t n=>gG t n 3)) {w:World} {rb tb i:Nat} {cap:Cp} {t:Tk} (h:Rd w rb tb cap t i 0 0) (hN:t.len - i≤N+1) (hb:au t i 0 0 ⟨#[115,112,97,119,110]⟩=true):
 Calls Tryz.prog 79 #[.pointer (some ⟨rb,0,none⟩)] w (aP w rb tb cap t i True (fun n=>seq (dK 1) (bnd (jZ t n) (fun cs=>bnd (dQ t (gG t n 0)) (fun y=>bnd (gG t n 3) (fun z=>ret (nd 48 (t.pos i) 0 (cs.length:Int) E0 (cs++[y,z])))))))):=by
 have hl:=h.l
 have aL:=h.eP
 have HB:=aD hb
 clear hb
 go_enter Tryz.func79,Tryz.ntmps79
 have q:=Mf.start h
 go_wp2_with fail
 refine(q.ne' (sz w) (aJ)).lf (dx · 48) ?_
 clear q
 intro w1 q
 have F:=q.f1
 go_wp2_with fail
 refine(q.ne' (sz w1) (nk 48 (t.pos i) nl)).wy (dw · _ (ask)) HB.out ?_
 clear q F
 intro w2 q
 have F:=q.f2
 go_wp2_with fail
 refine q.li (fun hr=>UK hr) (fun w' p hk hw=>⟨rfl,.inr (q.aR hk (by exact wrt))⟩) ?_
 clear q F
 intro w3 xB xC nE i4 V4 hl4 m4 q
 have F:=q.f2
 have hl5:nE.length≤6001:=by have:=hl4.out.2;have:=q.st.rd.lt;have:=h.good.few;omega
 have U0:Hid (nE.length≤19000):=by show nE.length≤19000;omega
 have tV:Hid (V4.length=nE.length):=q.fv.len
 have HTR:Hid (∀p,Wr (fun n=>dQ t (gG t n 0)) ⟨i4,0,0⟩ p→Wr (fun n=>seq (dK 1) (bnd (jZ t n) (fun cs=>bnd (dQ t (gG t n 0)) (fun y=>bnd (gG t n 3) (fun z=>ret (nd 48 (t.pos i) 0 (cs.length:Int) E0 (cs++[y,z]))))))) ⟨i,0,0⟩ p):=fun p hw=>(by exact wrt)
 have Qc:Hid (∀i8 y8 p,Ev (fun n=>dQ t (gG t n 0)) ⟨i4,0,0⟩ (y8,⟨i8,0,0⟩)→Wr (fun n=>gG t n 3) ⟨i8,0,0⟩ p→Wr (fun n=>seq (dK 1) (bnd (jZ t n) (fun cs=>bnd (dQ t (gG t n 0)) (fun y=>bnd (gG t n 3) (fun z=>ret (nd 48 (t.pos i) 0 (cs.length:Int) E0 (cs++[y,z]))))))) ⟨i,0,0⟩ p):=fun i8 y8 p m8 hw=>(by exact wrt)
 go_wp2_with fail
 go_region_law (first|(refine(q.swap).as2 (sz w5) U0.out ?_;clear q F;intro w6 Jr Js q;have F:=q.f2)|(go_simp;refine q.nd (fun hr=>hB hr (by have:=hr.lt;have:=q.go trivial;omega)) (fun w' p hk hw=>⟨rfl,.inr (q.aR hk (Qc.out _ _ _ m8 hw))⟩) ?_;clear q F;intro w5 x9 i9 y9 Cr m9 q;have F:=q.f2)|(replace q:=((q.fE (.slice xB nE.length xC)).Cn (nE.length:Int)).drew;go_simp;refine q.nn (fun hr=>E9 hT hr (by have:=hr.lt;have:=q.go trivial;omega)) (fun w' p hk hw=>⟨rfl,.inr (q.aR hk (HTR.out _ hw))⟩) ?_;clear q F;intro w4 x8 i8 y8 Pn m8 q;have F:=q.f2))
 all_goals
  go_wp2_with fail
  go_light
  exact Mf.rt ((q.fE (.slice Jr (nE.length+2) Js)).fo 48 (t.pos i) 0 (nE.length:Int) ⟨#[]⟩ (by simp;omega) aL) Tryz.results79 1 (by rw[←tV.out];exact bS)
theorem Sg {N:Nat} (hT:bH 70 N (fun t n=>gG t n 0)) (hB:bH 75 N (fun t n=>gG t n 3)) {w:World} {rb tb i:Nat} {cap:Cp} {t:Tk} (h:Rd w rb tb cap t i 0 0) (hN:t.len - i≤N+1):
 Calls Tryz.prog 78 #[.pointer (some ⟨rb,0,none⟩)] w (aP w rb tb cap t i True (fun n=>gI t (gG t n 0) (gG t n 3) n)):=by
 have hl:=h.l
 have aL:=h.eP
 go_enter Tryz.func78,Tryz.ntmps78
 have q:=Mf.start h
 go_wp2_with fail
 refine(q.ne' (sz w) (aJ)).lf (dx · 46) ?_
 clear q
 intro w1 q
 have F:=q.f1
 go_wp2_with fail
 refine(q.ne' (sz w1) (nk 46 (t.pos i) nl)).wn (dw · _ (ask)) (fun w' hk hw=>⟨rfl,.inr ((q.ne' (sz w1) (nk 46 (t.pos i) nl)).aR hk (by unfold gI;exact wrt))⟩) ?_
 clear q F
 intro w2 m2 q
 have F:=q.f2
 go_wp2_with fail
 refine q.iv (LZ ·) ?_
 clear q F
 intro w3 n3 i3 hle3 m3 q
 have F:=q.f2
 go_wp2_with fail
 refine(q.pV n3).li (fun hr=>UK hr) (fun w' p hk hw=>⟨rfl,.inr ((q.pV n3).aR hk (by unfold gI;exact wrt))⟩) ?_
 clear q F
 intro w4 xB xC nE i4 V4 hl4 m4 q
 have F:=q.f2
 have hl5:nE.length≤6001:=by have:=hl4.out.2;have:=q.st.rd.lt;have:=h.good.few;omega
 have abq:=@aG _ @hl5
 have tV:Hid (V4.length=nE.length):=q.fv.len
 have HTP:Hid (∀p,Wr (fun n=>iw t (gG t n 0) n) ⟨i4,0,0⟩ p→Wr (fun n=>gI t (gG t n 0) (gG t n 3) n) ⟨i,0,0⟩ p):=fun p hw=>(by unfold gI;exact wrt)
 go_upto_region 6 with fail
 go_cut [] (fun wx=>∃(i5:Nat) (V5:List (List Nr)) (v:Value) (vs:List (List Value)),Hid (i4<i5)∧Ev (fun n=>iw t (gG t n 0) n) ⟨i4,0,0⟩ (V5,⟨i5,0,0⟩)∧Hid (vs.length≤12020)∧Mf w rb tb cap t i True wx i5 [(sz w1,ah 46 (t.pos i) n3 (nE.length:Int) ⟨#[]⟩ v),(sz w,aJ)] [] v vs [] (V4++V5))
 case first=>
  go_wp2_with fail
  go_region_law (first|(refine q.Px Jc AL (Nat.le_trans abq.out (by decide)) (AU h.good.few xQ.out.2.1 q.st.rd.lt) ?_;clear q F;intro w6 mh mo q;have F:=q.f2)|(replace q:=((q.fE (.slice xB nE.length xC)).Cn (nE.length:Int)).drew;go_simp;refine q.lh (fun hr=>L8 hT hr (by have:=hr.lt;have:=q.go trivial;omega)) (fun w' p hk hw=>⟨rfl,.inr (q.aR hk (HTP.out _ hw))⟩) ?_;clear q F;intro w5 aa2 aa3 ng i5 V5 xQ Jc AL m5 q;have F:=q.f2))
  all_goals
   have HL5:Hid ((nE++ng).length≤12020):=by show(nE++ng).length≤12020;have:=AU h.good.few xQ.out.2.1 q.st.rd.lt;have:=abq.out;rw[List.length_append];omega
   clear AL
   go_wp2_with fail
   go_meet
   exact⟨i5,V5,_,_,xQ.out.2.2 trivial,m5,HL5,q.fE (.slice mh (nE.length+ng.length) mo)⟩
 case rest=>
  clear F q
  obtain⟨i5,V5,v,vs,mq,m5,U0,q⟩:=hcut
  obtain⟨w6,hw⟩:∃x,x=wc:=⟨_,rfl⟩
  subst hw
  obtain⟨mh,mo,rfl⟩:=q.shape
  have F:=q.f2
  have HTR:Hid (∀p,Wr (fun n=>dQ t (gG t n 0)) ⟨i5,0,0⟩ p→Wr (fun n=>gI t (gG t n 0) (gG t n 3) n) ⟨i,0,0⟩ p):=fun p hw=>(by unfold gI;exact wrt)
  have Qc:Hid (∀i8 y8 p,Ev (fun n=>dQ t (gG t n 0)) ⟨i5,0,0⟩ (y8,⟨i8,0,0⟩)→Wr (fun n=>gG t n 3) ⟨i8,0,0⟩ p→Wr (fun n=>gI t (gG t n 0) (gG t n 3) n) ⟨i,0,0⟩ p):=fun i8 y8 p m8 hw=>(by unfold gI;exact wrt)
  go_wp2_with fail
  go_region_law (first|(refine(q.swap).as2 (sz w8) (Nat.le_trans U0.out (by decide)) ?_;clear q F;intro w9 Jr Js q;have F:=q.f2)|(go_simp;refine q.nd (fun hr=>hB hr (by have:=hr.lt;have:=q.go trivial;omega)) (fun w' p hk hw=>⟨rfl,.inr (q.aR hk (Qc.out _ _ _ m8 hw))⟩) ?_;clear q F;intro w8 x9 i9 y9 Cr m9 q;have F:=q.f2)|(replace q:=q.drew;go_simp;refine q.nn (fun hr=>E9 hT hr (by have:=hr.lt;have:=q.go trivial;omega)) (fun w' p hk hw=>⟨rfl,.inr (q.aR hk (HTR.out _ hw))⟩) ?_;clear q F;intro w7 x8 i8 y8 Pn m8 q;have F:=q.f2))
  all_goals
   go_wp2_with fail
   go_light
   exact Mf.rt ((q.fE (.slice Jr (vs.length+2) Js)).fo 46 (t.pos i) n3 (nE.length:Int) ⟨#[]⟩ (by have:=U0.out;simp;omega) aL) Tryz.results78 1 (by rw[←tV.out];unfold gI;exact bS)
end Go.Proofs.YtdplogkmkgekdaaGreatDoor.Pj
