/- Bounds, counted. -/
import Derived.Test.YtdplogkmkgekdaaGreatDoorZParams
import Derived.Test.YtdplogkmkgekdaaGreatDoorFRefdn
import Derived.Test.YtdplogkmkgekdaaGreatDoorFOr
import Derived.Test.YtdplogkmkgekdaaGreatDoorFPostfix
import Derived.Test.YtdplogkmkgekdaaGreatDoorFWordC
import Derived.Test.YtdplogkmkgekdaaGreatDoorFMake
import Derived.Test.YtdplogkmkgekdaaGreatDoorFPats
import Derived.Test.YtdplogkmkgekdaaGreatDoorFCaps
import Derived.Test.YtdplogkmkgekdaaGreatDoorGmc
set_option linter.all false
set_option maxRecDepth 100000
set_option maxHeartbeats 4000000
namespace Go.Proofs.YtdplogkmkgekdaaGreatDoor
open Go.RowKit
theorem paramsF (hT:∀N,tyF 1 N):liF 171 True (fun ks=>∀x∈ks,x=12) (fun t n=>gParams t (gG t n 0) n):=by
 intro w rb tb cap i t k a h
 have hl:=h.l
 go_enter Tryz.func171,Tryz.ntmps171
 have q:=Mf.start (wt:=1) h
 go_wp2_with fail
 refine q.wn (want39F · _) ?_
 clear q
 intro w1 i1 k1 a1 ok1 m1 q
 go_wp2_with fail
 refine q.et (eat42 · _) ?_
 clear q
 intro w2 b2 i2 hE2 m2 q
 go_wp2_with fail
 ·go_wp2_with fail
  go_ret
  exact Mf.post (d:=0) q (fun _=>trivial) (by simp) (fun _ x hx=>by cases hx) (by omega) (by unfold gParams;exact evt)
 ·obtain rfl:b2=false:= ‹_›
  go_wp2_with fail
  go_loopg [3] (ml t i2 k1) (fun g v wr=>∃(vs:List (List Value)) (j:Nat) (kj aj:Int),g=ml t j kj∧Few 0 vs j kj∧(kj=0→(fun ks=>∀x∈ks,x=12) (vs.map labOf))∧∃(V:List (List Nr)),Hid (∀r,EvL (fun n=>gParamsB t (gG t n 0)) V ⟨j,kj,aj⟩ r→Ev (fun n=>gParams t (gG t n 0) n) ⟨i,k,a⟩ r)∧Mf 1 w rb tb cap t i k False (-16) wr j kj aj [] [] v vs [] V)
  case atStart=>exact⟨[],i2,k1,a1,rfl,⟨fun _=>by simp,by simp⟩,(fun e=>(fun x hx=>by cases hx)),_,(fun r hr=>(by unfold gParams;exact evt)),(q.up (fun x=>x.elim)).less (by omega)⟩
  case round=>
   clear q
   obtain⟨vs,j,kj,aj,hgk,hF,hC0,V,HM,q⟩:=hrel
   have HC:Hid (kj=0→(fun ks=>∀x∈ks,x=12) (vs.map labOf)):=hC0
   clear hC0
   have hj:=q.st.rd.lt
   have hposJ:(0:Int)≤(t.pos j:Int)∧(t.pos j:Int)≤7000:=by have:=h.good.posb j;omega
   have HG:Hid (gk=ml t j kj):=hgk
   clear hgk
   obtain⟨ao3,cp3,rfl⟩:=q.shape
   cases hk0:(kj==0)
   ·go_wp2_with fail
    refine q.lf ok21b ?_
    clear q
    intro w4 q
    go_wp2_with fail
    go_ret
    exact Mf.post (d:=0) (q.up (g':=True) (fun _ e=>absurd e (by simpa using hk0))) (fun _=>trivial) hF.2 (fun e=>absurd e (by simpa using hk0)) (by omega) (HM.out _ (EvL.stop (by unfold gParamsB;exact evt)))
   ·obtain rfl:kj=0:=by simpa using hk0
    have hb1:Hid (i≤j∧k=0):=⟨q.le,q.ok rfl⟩
    replace HC:Hid ((fun ks=>∀x∈ks,x=12) (vs.map labOf)):=HC.out rfl
    have hFl:vs.length≤6001:=by have:=hF.1 rfl;have:=h.good.few;omega
    replace q:Mf 1 w rb tb cap t j 0 False (16*((j:Int) - (i:Int))+(-16)) wr j 0 aj [] [] (.slice ao3 vs.length cp3) vs [] V:=q.rebase.less (by omega)
    go_wp2_with fail
    refine q.lf ok21b ?_
    clear q
    intro w5 q
    go_wp2_with fail
    refine q.lf (node20 · 12) ?_
    clear q
    intro w6 q
    go_wp2_with fail
    refine(q.ne' (sz w6) (nk 12 (t.pos j) nl)).et (eat42 · _) ?_
    clear q
    intro w7 b7 i7 hE7 m7 q
    have F:=q.f1
    go_upto_if 15 with fail
    go_cut [] (fun wx=>∃(MM:Int) (j8:Nat) (k8 a8:Int),(Ev (fun _=>gMut t) ⟨j,0,aj⟩ (MM,⟨j8,k8,a8⟩)∧Mf 1 w rb tb cap t j 0 False (16*((j:Int) - (i:Int))+(-16)) wx j8 k8 a8 [(sz w6,nodeC 12 (t.pos j) 0 MM ⟨#[]⟩ nl)] [] (.slice ao3 vs.length cp3) vs [] V))
    case first=>
     go_wp2_with fail
     ·go_wp2_with fail
      go_meet
      exact⟨1,i7,0,aj,(by unfold gMut;exact evt),((q.p03 1).less (by omega))⟩
     ·go_wp2_with fail
      go_meet
      exact⟨0,i7,0,aj,(by unfold gMut;exact evt),(q.less (by omega))⟩
    case rest=>
     clear F q
     obtain⟨MM,j8,k8,a8,mm,q⟩:=hcut
     obtain⟨w9,hw⟩:∃x,x=wc:=⟨_,rfl⟩
     subst hw
     have F:=q.f1
     go_wp2_with fail
     refine q.nm name40F ?_
     clear q F
     intro w10 s10 i10 k10 a10 hs10 ho10 ok10 m10 q
     have F:=q.f1
     go_wp2_with fail
     refine(q.p04 s10).wn (want39F · _) ?_
     clear q F
     intro w11 i11 k11 a11 ok11 m11 q
     have F:=q.f1
     go_wp2_with fail
     refine q.nd (hT _ · (bd_some _ _ _ 3)) ?_
     clear q F
     intro w12 x12 i12 k12 a12 y12 hc12 ok12 m12 q
     have F:=q.f1
     go_wp2_with (at_builtin;refine((q.p05 (sl (sz w12) 1)).l1 (sz w12) 12 (t.pos j) 0 MM s10 hposJ (Nat.le_trans hs10 (by decide)) (fun e=>Gr.of_param ⟨_,rfl,hc12 e⟩)).ap ((sz w12)+1) (Nat.le_trans hFl (by decide)) ?_;clear q F;intro w13 ao13 cp13 q;have F:=q.f1)
     go_wp2_with fail
     refine q.et (eat42 · _) ?_
     clear q F
     intro w14 b14 i14 hE14 m14 q
     have F:=q.f1
     go_wp2_with fail
     ·go_wp2_with fail
      go_ret
      exact Mf.post (d:=0) ((q.unbase (i':=i) (k':=k) (g':=False) (s':= -55) hb1.out.1 (fun _=>hb1.out.2) (fun x=>x.elim) (by omega)).up (g':=True) (fun _ e=>Nat.lt_of_le_of_lt hb1.out.1 (q.go trivial e))) (fun _=>trivial) (by have h1:=hF.1 rfl;have h2:=h.good.few;simp only[List.length_append,List.length_cons,List.length_nil];omega) (fun e=>by rw[List.map_append];exact all_snoc HC.out (lab_param (ho10 (ok11.out (ok12.out e))))) (by omega) (HM.out _ (EvL.stop (by unfold gParamsB;exact evt)))
     ·go_wp2_with fail
      refine q.wn (want39F · _) ?_
      clear q F
      intro w15 i15 k15 a15 ok15 m15 q
      have F:=q.f1
      go_wp2_with fail
      go_roundg (ml t i15 k15)
      case measure=>rw[HG.out];exact ml_lt hj q.pop.le (q.pop.go trivial)
      case rel=>exact⟨(vs++[(nodeC 12 (t.pos j) 0 MM s10 (sl (sz w12) 1)).toList]),i15,k15,a15,rfl,Few.snoc (t:=t) hF rfl hj h.good (q.pop.go trivial),(fun e=>by rw[List.map_append];exact all_snoc HC.out (lab_param (ho10 (ok11.out (ok12.out (ok15.out e)))))),_,(fun r hr=>HM.out r (EvL.on (by unfold gParamsB;exact evt) hr)),q.pop.unbase (s':= -16) hb1.out.1 (fun _=>hb1.out.2) (fun x=>x.elim) (by omega)⟩
end Go.Proofs.YtdplogkmkgekdaaGreatDoor
namespace Go.Proofs.YtdplogkmkgekdaaGreatDoor
open Go.RowKit
theorem resultF (hT:∀N,tyF 1 N):noF 1 172 False (-1) tyK (fun t n=>gResult t (gG t n 0)):=by
 intro w rb tb cap i t k a h
 have hl:=h.l
 have hposI:(0:Int)≤(t.pos i:Int)∧(t.pos i:Int)≤7000:=by have:=h.good.posb i;omega
 go_enter Tryz.func172,Tryz.ntmps172
 have q:=Mf.start (wt:=1) h
 go_wp2_with fail
 refine(q.ne' (sz w) (zeroC)).lf (node20 · 15) ?_
 clear q
 intro w1 q
 have F:=q.f1
 go_wp2_with fail
 refine(q.ne' (sz w1) (nk 15 (t.pos i) nl)).et (eat42 · _) ?_
 clear q F
 intro w2 b2 i2 hE2 m2 q
 have F:=q.f2
 go_wp2_with fail
 ·go_wp2_with fail
  refine q.nd (hT _ · (bd_some _ _ _ 3)) ?_
  clear q F
  intro w3 x3 i3 k3 a3 y3 hc3 ok3 m3 q
  have F:=q.f2
  go_wp2_with fail
  go_light
  exact Mf.retb (C:=tyK) (d:= -1) Tryz.results172 rfl rfl (q.up (g':=False) (fun x=>x.elim)) 1 rfl hc3 (by omega) rfl (by unfold gResult;exact evt)
 ·go_wp2_with fail
  go_light
  exact Mf.retb (C:=tyK) (d:= -1) Tryz.results172 rfl rfl (q.lk 15 (t.pos i) 0 0 ⟨#[]⟩ hposI (by decide) (fun _=>Gr.of_tuple (fun x hx=>by cases hx))) 1 rfl (fun _=>⟨by show(13:Int)≤15;decide,by show(15:Int)≤18;decide⟩) (by omega) rfl (by unfold gResult;exact evt)
end Go.Proofs.YtdplogkmkgekdaaGreatDoor
namespace Go.Proofs.YtdplogkmkgekdaaGreatDoor
open Go.RowKit
theorem isB_lt2F {t:Tk} {i:Nat} {k:Int} {s:ByteArray} (hg:t.Good) (h:isB t i k 1 s=true):i+2<t.len:=by
 simp[isB] at h
 obtain⟨_,h2,h3,_⟩:=h
 rcases Nat.lt_or_ge (i+2) t.len with h5|h5
 ·exact h5
 ·have e:i+1=t.len - 1:=by omega
  have hl:=hg.last
  rw[←e] at hl
  omega
theorem writtenF (hT:∀N,tyF 1 N):liF 208 False (fun ks=>∀x∈ks,noK x) (fun t n=>gWritten t (gG t n 0) n):=by
 intro w rb tb cap i t k a h
 have hl:=h.l
 go_enter Tryz.func208,Tryz.ntmps208
 have hi:(i:Int)<(t.len:Int):=by have:=h.lt;omega
 have hfew:(t.len:Int)≤6001:=by have:=h.good.few;omega
 have q:=Mf.start (wt:=1) h
 cases h1:isB t i k 0 ⟨#[58,58]⟩
 ·go_wp2_with fail
  refine q.lf (is41 · 0 (by decide) _) ?_
  clear q
  intro w1 q
  go_wp2_with fail
  go_ret
  exact Mf.post (d:=0) q (fun x=>x.elim) (by simp) (fun _ x hx=>by cases hx) (by omega) (by unfold gWritten;unfold gRow;exact evt)
 ·cases h2:isB t i k 1 ⟨#[60]⟩
  ·go_wp2_with fail
   refine q.lf (is41 · 0 (by decide) _) ?_
   clear q
   intro w2 q
   go_wp2_with fail
   refine q.lf (is41 · 1 (by decide) _) ?_
   clear q
   intro w3 q
   go_wp2_with fail
   go_ret
   exact Mf.post (d:=0) q (fun x=>x.elim) (by simp) (fun _ x hx=>by cases hx) (by omega) (by unfold gWritten;unfold gRow;exact evt)
  ·have hlt2:i+2<t.len:=isB_lt2F h.good h2
   have HK:Hid (k=0):=(isB_lt h.good h.lt h1).1
   go_wp2_with fail
   refine q.lf (is41 · 0 (by decide) _) ?_
   clear q
   intro w4 q
   go_wp2_with fail
   refine q.lf (is41 · 1 (by decide) _) ?_
   clear q
   intro w5 q
   have r1:=q.st.rd.r1
   have fr1:=q.st.rd.fz 1
   have lr:=q.st.rd.l
   go_wp2_with fail
   go_loopg [3] (ml t (i+2) k) (fun g v wr=>∃(vs:List (List Value)) (j:Nat) (kj aj:Int),g=ml t j kj∧Few 0 vs j kj∧(kj=0→(fun ks=>∀x∈ks,noK x) (vs.map labOf))∧∃(V:List (List Nr)),Hid (∀r,EvL (fun n=>gRowB t (gG t n 0) ⟨#[62]⟩) V ⟨j,kj,aj⟩ r→Ev (fun n=>gWritten t (gG t n 0) n) ⟨i,k,a⟩ r)∧Mf 1 w rb tb cap t i k False (-16) wr j kj aj [] [] v vs [] V)
   case atStart=>exact⟨[],(i+2),k,a,rfl,⟨fun _=>by simp,by simp⟩,(fun e=>(fun x hx=>by cases hx)),_,(fun r hr=>(by unfold gWritten;unfold gRow;exact evt)),((q.goI (j':=i+2) hlt2 (by omega)).up (fun x=>x.elim)).less (by omega)⟩
   case round=>
    clear r1 fr1 lr q
    obtain⟨vs,j,kj,aj,hgk,hF,hC0,V,HM,q⟩:=hrel
    have HC:Hid (kj=0→(fun ks=>∀x∈ks,noK x) (vs.map labOf)):=hC0
    clear hC0
    have hj:=q.st.rd.lt
    have hposJ:(0:Int)≤(t.pos j:Int)∧(t.pos j:Int)≤7000:=by have:=h.good.posb j;omega
    have HG:Hid (gk=ml t j kj):=hgk
    clear hgk
    obtain⟨ao6,cp6,rfl⟩:=q.shape
    cases hk0:(kj==0)
    ·go_wp2_with fail
     refine q.lf ok21b ?_
     clear q
     intro w7 q
     go_wp2_with fail
     go_ret
     exact Mf.post (d:=0) q (fun x=>x.elim) hF.2 (fun e=>absurd e (by simpa using hk0)) (by omega) (HM.out _ (EvL.stop (by unfold gRowB;exact evt)))
    ·obtain rfl:kj=0:=by simpa using hk0
     have hb1:Hid (i≤j∧k=0):=⟨q.le,q.ok rfl⟩
     replace HC:Hid ((fun ks=>∀x∈ks,noK x) (vs.map labOf)):=HC.out rfl
     have hFl:vs.length≤6001:=by have:=hF.1 rfl;have:=h.good.few;omega
     replace q:Mf 1 w rb tb cap t j 0 False (16*((j:Int) - (i:Int))+(-16)) wr j 0 aj [] [] (.slice ao6 vs.length cp6) vs [] V:=q.rebase.less (by omega)
     go_wp2_with fail
     refine q.lf ok21b ?_
     clear q
     intro w8 q
     go_wp2_with fail
     refine q.nd (hT _ · (bd_some _ _ _ 3)) ?_
     clear q
     intro w9 x9 i9 k9 a9 y9 hc9 ok9 m9 q
     go_wp2_with (at_builtin;refine q.ap (sz w9) (Nat.le_trans hFl (by decide)) ?_;clear q;intro w10 ao10 cp10 q)
     go_wp2_with fail
     refine q.et (eat42 · _) ?_
     clear q
     intro w11 b11 i11 hE11 m11 q
     go_wp2_with fail
     ·go_wp2_with fail
      go_ret
      exact Mf.post (d:=0) (q.unbase (i':=i) (k':=k) (g':=False) (s':= -24) hb1.out.1 (fun _=>hb1.out.2) (fun x=>x.elim) (by omega)) (fun x=>x.elim) (by have h1:=hF.1 rfl;have h2:=h.good.few;simp only[List.length_append,List.length_cons,List.length_nil];omega) (fun e=>by rw[List.map_append];exact all_snoc HC.out (hc9 e).no) (by omega) (HM.out _ (EvL.stop (by unfold gRowB;exact evt)))
     ·go_wp2_with fail
      refine q.wn (want39F · _) ?_
      clear q
      intro w12 i12 k12 a12 ok12 m12 q
      go_wp2_with fail
      go_roundg (ml t i12 k12)
      case measure=>rw[HG.out];exact ml_lt hj q.le (q.go trivial)
      case rel=>exact⟨(vs++[x9.t]),i12,k12,a12,rfl,Few.snoc (t:=t) hF rfl hj h.good (q.go trivial),(fun e=>by rw[List.map_append];exact all_snoc HC.out (hc9 (ok12.out e)).no),_,(fun r hr=>HM.out r (EvL.on (by unfold gRowB;exact evt) hr)),q.unbase (s':= -16) hb1.out.1 (fun _=>hb1.out.2) (fun x=>x.elim) (by omega)⟩
end Go.Proofs.YtdplogkmkgekdaaGreatDoor
namespace Go.Proofs.YtdplogkmkgekdaaGreatDoor
open Go.RowKit
theorem exF.up {f r N:Nat} {m m2:Tk→Nat→GP (List Nr)} (h:exF f r N m) (e:∀t n,m2 t (n+1)=m t n):exF f r N m2:=fun h1 h2=>(h h1 h2).mono (fun _ _ p=>p.up (e _))
theorem exKF.up {f r N:Nat} {m m2:Tk→Nat→GP (List Nr)} (h:exKF f r N m) (e:∀t n,m2 t (n+1)=m t n):exKF f r N m2:=fun h1 h2=>(h h1 h2).mono (fun _ _ p=>p.up (e _))
theorem resF:noF 1 172 False (-1) tyK (fun t n=>gResult t (gG t n 0)):=resultF typ_anyF
theorem parF:liF 171 True (fun ks=>∀x∈ks,x=12) (fun t n=>gParams t (gG t n 0) n):=paramsF typ_anyF
theorem wriF:liF 208 False (fun ks=>∀x∈ks,noK x) (fun t n=>gWritten t (gG t n 0) n):=writtenF typ_anyF
theorem pats_allF:(N:Nat)→exF 242 3 N (fun t n=>gG t n 5)∧exsF 258 4 N (fun t n=>gList t (gG t n 5) ⟨#[41]⟩ n)
 |0=>⟨fun _ hN=>absurd hN.2 (by decide),fun _ hN=>absurd hN.2 (by decide)⟩
 |N+1=>
  let⟨h1,h2⟩:=pats_allF N
  ⟨exF.up (m2:=fun t n=>gG t n 5) (patternF h2) (fun _ _=>rfl),patsF h1⟩
structure ExAF (N:Nat):Prop where
 expr:exF 176 18 N (fun t n=>gG t n 1)
 or:exF 211 17 N (fun t n=>gOrE t (gG t n 2) n)
 and:exF 229 16 N (fun t n=>gAndE t (gG t n 2) n)
 cmp:exF 243 15 N (fun t n=>gCmp t (gG t n 2) n)
 add:exF 260 14 N (fun t n=>gAddE t (gG t n 2) n)
 mul:exF 266 13 N (fun t n=>gMul t (gG t n 2) n)
 unary:exF 267 12 N (fun t n=>gG t n 2)
 pfix:exF 268 11 N (fun t n=>gPostfix t (gG t n 1) (gG t n 6) n)
 primary:exF 175 10 N (fun t n=>gG t n 6)
 worded:exWF N
 ifs:exKF 224 8 N (fun t n=>gG t n 4)
 mat:exKF 225 8 N (fun t n=>gMatch t (gG t n 1) (gG t n 5) n)
 make:exKF 226 8 N (fun t n=>gMake t (gG t n 0) (gG t n 1) n)
 closure:exKF 227 8 N (fun t n=>gClosure t (gG t n 0) (gG t n 3) n)
 block:exF 104 7 N (fun t n=>gG t n 3)
 lets:exF 173 7 N (fun t n=>gLet t (gG t n 0) (gG t n 1))
 exprs:exsF 209 19 N (fun t n=>gList t (gG t n 1) ⟨#[41]⟩ n)
theorem ex_allF:(N:Nat)→ExAF N
 |0=>⟨fun _ hN=>absurd hN.2 (by decide),fun _ hN=>absurd hN.2 (by decide),fun _ hN=>absurd hN.2 (by decide),fun _ hN=>absurd hN.2 (by decide),fun _ hN=>absurd hN.2 (by decide),fun _ hN=>absurd hN.2 (by decide),fun _ hN=>absurd hN.2 (by decide),fun _ hN=>absurd hN.2 (by decide),fun _ hN=>absurd hN.2 (by decide),fun _ _ hN=>absurd hN.2 (by decide),fun _ hN=>absurd hN.2 (by decide),fun _ hN=>absurd hN.2 (by decide),fun _ hN=>absurd hN.2 (by decide),fun _ hN=>absurd hN.2 (by decide),fun _ hN=>absurd hN.2 (by decide),fun _ hN=>absurd hN.2 (by decide),fun _ hN=>absurd hN.2 (by decide)⟩
 |N+1=>
  let h:=ex_allF N
  ⟨exF.up (m2:=fun t n=>gG t n 1) (exprF h.or h.expr) (fun _ _=>rfl),orF h.and,andF h.cmp,cmpF h.add,addF h.mul,mulF h.unary,exF.up (m2:=fun t n=>gG t n 2) (unaryF h.pfix h.unary) (fun _ _=>rfl),postfixF h.primary h.exprs,exF.up (m2:=fun t n=>gG t n 6) (primaryF wriF h.exprs h.block h.worded) (fun _ _=>rfl),wordedF h.expr h.block h.ifs h.mat h.make h.closure capsF resF,exKF.up (m2:=fun t n=>gG t n 4) (ifsF h.expr h.block h.ifs) (fun _ _=>rfl),matchF h.expr (pats_allF N).1,makeF wriF h.expr,closureF capsF parF resF h.block,exF.up (m2:=fun t n=>gG t n 3) (blockF h.expr h.primary h.lets) (fun _ _=>rfl),letF typ_anyF h.expr,exprsF h.expr⟩
theorem blkF {w:World} {rb tb cap i:Nat} {t:Tk} {k a:Int} (h:Rd w rb tb cap t i k a):Calls Tryz.prog 104 #[.pointer (some ⟨rb,0,none⟩)] w (NodeF 1 w rb tb cap t i k a True 8 noK (fun n=>gG t n 3)):=(ex_allF _).block h (bd_some _ _ _ 7)
end Go.Proofs.YtdplogkmkgekdaaGreatDoor
namespace Go.Proofs.YtdplogkmkgekdaaGreatDoor
open Go.RowKit
theorem boundsF_true (hLi:noF 1 204 True 8 (fun x=>x=19) (fun t _=>gLife t)) {w:World} {rb tb cap i:Nat} {t:Tk} {k a:Int} (h:Rd w rb tb cap t i k a):Calls Tryz.prog 205 #[.pointer (some ⟨rb,0,none⟩),.bool true] w (ListF 1 w rb tb cap t i k a False 0 (bndK true) (fun n=>gBounds t true n)):=by
 have hl:=h.l
 go_enter Tryz.func205,Tryz.ntmps205
 have q:=Mf.start (wt:=1) h
 go_wp2_with fail
 refine q.et (eat42 · _) ?_
 clear q
 intro w1 b1 i1 hE1 m1 q
 go_wp2_with fail
 ·go_wp2_with fail
  go_ret
  exact Mf.post (d:=0) (q.up (g':=False) (fun x=>x.elim)) (fun x=>x.elim) (by simp) (fun _ x hx=>by cases hx) (by omega) (by unfold gBounds;exact evt)
 ·obtain rfl:b1=true:=by have hb:= ‹(!b1)=false›;simpa using hb
  go_wp2_with fail
  go_loopg [5] (ml t i1 k) (fun g v wr=>∃(vs:List (List Value)) (j:Nat) (kj aj:Int),g=ml t j kj∧Few 0 vs j kj∧(kj=0→(bndK true) (vs.map labOf))∧∃(V:List (List Nr)),Hid (∀r,EvL (fun n=>gBoundsB t true n) V ⟨j,kj,aj⟩ r→Ev (fun n=>gBounds t true n) ⟨i,k,a⟩ r)∧Mf 1 w rb tb cap t i k False (0) wr j kj aj [] [] v vs [] V)
  case atStart=>exact⟨[],i1,k,a,rfl,⟨fun _=>by simp,by simp⟩,(fun e=>(fun x hx=>by cases hx)),_,(fun r hr=>(by unfold gBounds;exact evt)),(q.up (fun x=>x.elim)).less (by omega)⟩
  case round=>
   clear q
   obtain⟨vs,j,kj,aj,hgk,hF,hC0,V,HM,q⟩:=hrel
   have HC:Hid (kj=0→(bndK true) (vs.map labOf)):=hC0
   clear hC0
   have hj:=q.st.rd.lt
   have hposJ:(0:Int)≤(t.pos j:Int)∧(t.pos j:Int)≤7000:=by have:=h.good.posb j;omega
   have HG:Hid (gk=ml t j kj):=hgk
   clear hgk
   obtain⟨ao2,cp2,rfl⟩:=q.shape
   cases hk0:(kj==0)
   ·go_wp2_with fail
    refine q.lf ok21b ?_
    clear q
    intro w3 q
    go_wp2_with fail
    go_ret
    exact Mf.post (d:=0) q (fun x=>x.elim) hF.2 (fun e=>absurd e (by simpa using hk0)) (by omega) (HM.out _ (EvL.stop (by unfold gBoundsB;exact evt)))
   ·obtain rfl:kj=0:=by simpa using hk0
    have hb1:Hid (i≤j∧k=0):=⟨q.le,q.ok rfl⟩
    replace HC:Hid ((bndK true) (vs.map labOf)):=HC.out rfl
    have hFl:vs.length≤6001:=by have:=hF.1 rfl;have:=h.good.few;omega
    replace q:Mf 1 w rb tb cap t j 0 False (16*((j:Int) - (i:Int))+(0)) wr j 0 aj [] [] (.slice ao2 vs.length cp2) vs [] V:=q.rebase.less (by omega)
    go_wp2_with fail
    refine q.lf ok21b ?_
    clear q
    intro w4 q
    go_wp2_with fail
    refine q.nd hLi ?_
    clear q
    intro w5 x5 i5 k5 a5 y5 hc5 ok5 m5 q
    go_wp2_with (at_builtin;refine q.ap (sz w5) (Nat.le_trans hFl (by decide)) ?_;clear q;intro w6 ao6 cp6 q)
    go_wp2_with fail
    refine q.et (eat42 · _) ?_
    clear q
    intro w7 b7 i7 hE7 m7 q
    go_wp2_with fail
    ·go_wp2_with fail
     go_ret
     exact Mf.post (d:=0) (q.unbase (i':=i) (k':=k) (g':=False) (s':= -8) hb1.out.1 (fun _=>hb1.out.2) (fun x=>x.elim) (by omega)) (fun x=>x.elim) (by have h1:=hF.1 rfl;have h2:=h.good.few;simp only[List.length_append,List.length_cons,List.length_nil];omega) (fun e=>by rw[List.map_append];exact all_snoc (C:=fun x=>(true=true→x=19)∧(x=19∨x=18)) HC.out ⟨fun _=>hc5 e,.inl (hc5 e)⟩) (by omega) (HM.out _ (EvL.stop (by unfold gBoundsB;exact evt)))
    ·go_wp2_with fail
     go_roundg (ml t i7 k5)
     case measure=>rw[HG.out];exact ml_lt hj q.le (q.go trivial)
     case rel=>exact⟨(vs++[x5.t]),i7,k5,a5,rfl,Few.snoc (t:=t) hF rfl hj h.good (q.go trivial),(fun e=>by rw[List.map_append];exact all_snoc (C:=fun x=>(true=true→x=19)∧(x=19∨x=18)) HC.out ⟨fun _=>hc5 e,.inl (hc5 e)⟩),_,(fun r hr=>HM.out r (EvL.on (by unfold gBoundsB;exact evt) hr)),q.unbase (s':=0) hb1.out.1 (fun _=>hb1.out.2) (fun x=>x.elim) (by omega)⟩
theorem boundsF_false (hLi:noF 1 204 True 8 (fun x=>x=19) (fun t _=>gLife t)) {w:World} {rb tb cap i:Nat} {t:Tk} {k a:Int} (h:Rd w rb tb cap t i k a):Calls Tryz.prog 205 #[.pointer (some ⟨rb,0,none⟩),.bool false] w (ListF 1 w rb tb cap t i k a False 0 (bndK false) (fun n=>gBounds t false n)):=by
 have hl:=h.l
 go_enter Tryz.func205,Tryz.ntmps205
 have q:=Mf.start (wt:=1) h
 go_wp2_with fail
 refine q.et (eat42 · _) ?_
 clear q
 intro w1 b1 i1 hE1 m1 q
 go_wp2_with fail
 ·go_wp2_with fail
  go_ret
  exact Mf.post (d:=0) (q.up (g':=False) (fun x=>x.elim)) (fun x=>x.elim) (by simp) (fun _ x hx=>by cases hx) (by omega) (by unfold gBounds;exact evt)
 ·obtain rfl:b1=true:=by have hb:= ‹(!b1)=false›;simpa using hb
  go_wp2_with fail
  go_loopg [5] (ml t i1 k) (fun g v wr=>∃(vs:List (List Value)) (j:Nat) (kj aj:Int),g=ml t j kj∧Few 0 vs j kj∧(kj=0→(bndK false) (vs.map labOf))∧∃(V:List (List Nr)),Hid (∀r,EvL (fun n=>gBoundsB t false n) V ⟨j,kj,aj⟩ r→Ev (fun n=>gBounds t false n) ⟨i,k,a⟩ r)∧Mf 1 w rb tb cap t i k False (0) wr j kj aj [] [] v vs [] V)
  case atStart=>exact⟨[],i1,k,a,rfl,⟨fun _=>by simp,by simp⟩,(fun e=>(fun x hx=>by cases hx)),_,(fun r hr=>(by unfold gBounds;exact evt)),(q.up (fun x=>x.elim)).less (by omega)⟩
  case round=>
   clear q
   obtain⟨vs,j,kj,aj,hgk,hF,hC0,V,HM,q⟩:=hrel
   have HC:Hid (kj=0→(bndK false) (vs.map labOf)):=hC0
   clear hC0
   have hj:=q.st.rd.lt
   have hposJ:(0:Int)≤(t.pos j:Int)∧(t.pos j:Int)≤7000:=by have:=h.good.posb j;omega
   have HG:Hid (gk=ml t j kj):=hgk
   clear hgk
   obtain⟨ao2,cp2,rfl⟩:=q.shape
   cases hk0:(kj==0)
   ·go_wp2_with fail
    refine q.lf ok21b ?_
    clear q
    intro w3 q
    go_wp2_with fail
    go_ret
    exact Mf.post (d:=0) q (fun x=>x.elim) hF.2 (fun e=>absurd e (by simpa using hk0)) (by omega) (HM.out _ (EvL.stop (by unfold gBoundsB;unfold gPathNode;exact evt)))
   ·obtain rfl:kj=0:=by simpa using hk0
    have hb1:Hid (i≤j∧k=0):=⟨q.le,q.ok rfl⟩
    replace HC:Hid ((bndK false) (vs.map labOf)):=HC.out rfl
    have hFl:vs.length≤6001:=by have:=hF.1 rfl;have:=h.good.few;omega
    replace q:Mf 1 w rb tb cap t j 0 False (16*((j:Int) - (i:Int))+(0)) wr j 0 aj [] [] (.slice ao2 vs.length cp2) vs [] V:=q.rebase.less (by omega)
    go_wp2_with fail
    refine q.lf ok21b ?_
    clear q
    intro w4 q
    cases hq:kindB t j 0 0 4
    ·go_wp2_with fail
     refine q.lf (kind22 · 0 (by decide) 4) ?_
     clear q
     intro w5 q
     go_wp2_with fail
     refine q.lf (node20 · 18) ?_
     clear q
     intro w6 q
     go_wp2_with fail
     refine(q.ne' (sz w6) (nk 18 (t.pos j) nl)).nm (path80F · 2 (by decide) (by decide)) ?_
     clear q
     intro w7 s7 i7 k7 a7 hs7 ho7 ok7 m7 q
     have F:=q.f1
     go_wp2_with (at_builtin;refine((q.p04 s7).lk 18 (t.pos j) 0 0 s7 hposJ hs7 (fun e=>Gr.of_path ⟨ho7 e,[],[],rfl,(fun _ hx=>by cases hx),(fun _ hx=>by cases hx)⟩)).ap (sz w7) (Nat.le_trans hFl (by decide)) ?_;clear q F;intro w8 ao8 cp8 q;have F:=q.f1)
     go_wp2_with fail
     refine q.et (eat42 · _) ?_
     clear q F
     intro w9 b9 i9 hE9 m9 q
     have F:=q.f1
     go_wp2_with fail
     ·go_wp2_with fail
      go_ret
      exact Mf.post (d:=0) (q.unbase (i':=i) (k':=k) (g':=False) (s':= -15) hb1.out.1 (fun _=>hb1.out.2) (fun x=>x.elim) (by omega)) (fun x=>x.elim) (by have h1:=hF.1 rfl;have h2:=h.good.few;simp only[List.length_append,List.length_cons,List.length_nil];omega) (fun e=>by rw[List.map_append];exact all_snoc (C:=fun x=>(false=true→x=19)∧(x=19∨x=18)) HC.out ⟨fun h=>(by cases h),.inr rfl⟩) (by omega) (HM.out _ (EvL.stop (by unfold gBoundsB;unfold gPathNode;exact evt)))
     ·go_wp2_with fail
      go_roundg (ml t i9 k7)
      case measure=>rw[HG.out];exact ml_lt hj q.pop.le (q.pop.go trivial)
      case rel=>exact⟨(vs++[(nodeC 18 (t.pos j) 0 0 s7 nl).toList]),i9,k7,a7,rfl,Few.snoc (t:=t) hF rfl hj h.good (q.pop.go trivial),(fun e=>by rw[List.map_append];exact all_snoc (C:=fun x=>(false=true→x=19)∧(x=19∨x=18)) HC.out ⟨fun h=>(by cases h),.inr rfl⟩),_,(fun r hr=>HM.out r (EvL.on (by unfold gBoundsB;unfold gPathNode;exact evt) hr)),q.pop.unbase (s':=0) hb1.out.1 (fun _=>hb1.out.2) (fun x=>x.elim) (by omega)⟩
    ·go_wp2_with fail
     refine q.lf (kind22 · 0 (by decide) 4) ?_
     clear q
     intro w10 q
     go_wp2_with fail
     refine q.nd hLi ?_
     clear q
     intro w11 x11 i11 k11 a11 y11 hc11 ok11 m11 q
     go_wp2_with (at_builtin;refine q.ap (sz w11) (Nat.le_trans hFl (by decide)) ?_;clear q;intro w12 ao12 cp12 q)
     go_wp2_with fail
     refine q.et (eat42 · _) ?_
     clear q
     intro w13 b13 i13 hE13 m13 q
     go_wp2_with fail
     ·go_wp2_with fail
      go_ret
      exact Mf.post (d:=0) (q.unbase (i':=i) (k':=k) (g':=False) (s':= -8) hb1.out.1 (fun _=>hb1.out.2) (fun x=>x.elim) (by omega)) (fun x=>x.elim) (by have h1:=hF.1 rfl;have h2:=h.good.few;simp only[List.length_append,List.length_cons,List.length_nil];omega) (fun e=>by rw[List.map_append];exact all_snoc (C:=fun x=>(false=true→x=19)∧(x=19∨x=18)) HC.out ⟨fun _=>hc11 e,.inl (hc11 e)⟩) (by omega) (HM.out _ (EvL.stop (by unfold gBoundsB;unfold gPathNode;exact evt)))
     ·go_wp2_with fail
      go_roundg (ml t i13 k11)
      case measure=>rw[HG.out];exact ml_lt hj q.le (q.go trivial)
      case rel=>exact⟨(vs++[x11.t]),i13,k11,a11,rfl,Few.snoc (t:=t) hF rfl hj h.good (q.go trivial),(fun e=>by rw[List.map_append];exact all_snoc (C:=fun x=>(false=true→x=19)∧(x=19∨x=18)) HC.out ⟨fun _=>hc11 e,.inl (hc11 e)⟩),_,(fun r hr=>HM.out r (EvL.on (by unfold gBoundsB;unfold gPathNode;exact evt) hr)),q.unbase (s':=0) hb1.out.1 (fun _=>hb1.out.2) (fun x=>x.elim) (by omega)⟩
def bndF:Prop:=∀{w:World} {rb tb cap i:Nat} {t:Tk} {k a:Int},Rd w rb tb cap t i k a→∀lv,Calls Tryz.prog 205 #[.pointer (some ⟨rb,0,none⟩),.bool lv] w (ListF 1 w rb tb cap t i k a False 0 (bndK lv) (fun n=>gBounds t lv n))
theorem boundsF (hLi:noF 1 204 True 8 (fun x=>x=19) (fun t _=>gLife t)):bndF:=by
 intro w rb tb cap i t k a h lv
 cases lv
 ·exact boundsF_false hLi h
 ·exact boundsF_true hLi h
def gensF:Prop:=∀{w:World} {rb tb cap i:Nat} {t:Tk} {k a:Int},Rd w rb tb cap t i k a→∀b:Bool,Calls Tryz.prog 167 #[.pointer (some ⟨rb,0,none⟩),.bool b] w (NodeF 1 w rb tb cap t i k a False (-1) (fun x=>x=9) (fun n=>gGens t b n))
end Go.Proofs.YtdplogkmkgekdaaGreatDoor
