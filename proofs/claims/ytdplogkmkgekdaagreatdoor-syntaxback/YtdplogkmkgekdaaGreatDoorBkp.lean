/- Parse of print: what is read is printed so that it is read back. -/
import Derived.Test.YtdplogkmkgekdaaGreatDoorBkm
set_option linter.all false
set_option maxRecDepth 100000
set_option maxHeartbeats 4000000
namespace Go.Proofs.YtdplogkmkgekdaaGreatDoor.Bk
theorem Vr {A B:List Kd} {a b:Kd}:(A++(B++[a,b])).take A.length=A∧((A++(B++[a,b])).take ((A++(B++[a,b])).length - 2)).drop A.length=B∧kd (A++(B++[a,b])) ((A++(B++[a,b])).length - 2)=a∧kd (A++(B++[a,b])) ((A++(B++[a,b])).length - 1)=b:=by
 have hl:(A++(B++[a,b])).length=(A++B).length+2:=by simp;omega
 have e:A++(B++[a,b])=(A++B)++[a,b]:=by simp
 refine⟨List.take_left ..,?_,?_,?_⟩
 ·rw[hl,Nat.add_sub_cancel,e,List.take_left,List.drop_left]
 ·rw[hl,Nat.add_sub_cancel,e]
  unfold kd
  simp
 ·rw[hl,e]
  unfold kd
  rw[List.getElem?_append_right (by omega)]
  simp
theorem Yr {p n:Int} {C P:List (List Nr)} {y z:List Nr} (hn:n=0∨n=1∨n=2) (hC:∀x∈C,Bb x) (hP:∀x∈P,Dx x) (hy:PT y) (hz:PB z):PX (nd 46 p n (C.length:Int) E0 (C++P++[y,z])):=by
 obtain⟨Kc,Uc,lc⟩:=J9 hC
 obtain⟨Kp,Up,lp⟩:=Ke hP
 obtain⟨Ky,wy,qM⟩:=J7 hy
 obtain⟨Kz,uz,bz⟩:=hz
 have hF:C++P++[y,z]=C++(P++[y,z]):=by simp
 have hg:Gr 46 n (C.length:Int) E0 ((C++P++[y,z]).map bA):=by
  rw[hF]
  constructor<;>intro e<;>first|exact absurd e (by decide)|exact⟨C.map bA,P.map bA,bA y,bA z,by simp,by simp,lc.lb,lp.lb,qM.lb.no,by rw[bz.lb];unfold dB;omega⟩
 have hz2:Zip Pt (C++P++[y,z]) (Kc++(Kp++[Ky,Kz])):=by
  rw[hF]
  exact lc.pt.app (lp.pt.app ⟨qM.pt,bz.pt,trivial⟩)
 refine PX.rP (K:=⟨46,_,_⟩) (us:=[102,110]::(pFn n++(([91]::(aS [44] Uc++[[93]]))++(([40]::(aS [44] Up++[[41]]))++(wy++uz))))) (Pt.nd hz2 hg) (by rw[dA];unfold dB lab;simp) rfl ?_ (aV rfl (bE (QE hn) (bE (aV rfl (bE (kF rfl lc.ok) (by decide))) (bE (aV rfl (bE (kF rfl lp.ok) (by decide))) (bE qM.ok bz.ok))))) ⟨_,_,rfl,rfl⟩ ?_
 ·have e1:(C.length:Int).toNat=Kc.length:=by rw[lc.len.2];simp
  obtain⟨t1,t2,t3,t4⟩:=Vr (A:=Kc) (B:=Kp) (a:=Ky) (b:=Kz)
  show glue _=glue ([102,110]::(pFn n++(bF [91] [93] ((Kc++(Kp++[Ky,Kz])).take (C.length:Int).toNat)++(bF [40] [41] (((Kc++(Kp++[Ky,Kz])).take ((Kc++(Kp++[Ky,Kz])).length - 2)).drop (C.length:Int).toNat)++(kN (kd (Kc++(Kp++[Ky,Kz])) ((Kc++(Kp++[Ky,Kz])).length - 2))++(kd (Kc++(Kp++[Ky,Kz])) ((Kc++(Kp++[Ky,Kz])).length - 1)).t)))))
  rw[e1,t1,t2,t3,t4]
  unfold bF
  simp only[aQ,aN,iO lc.gl,iO lp.gl,qM.gl,bz.gl]
 ·rintro t i ⟨a1,a2⟩ hf
  obtain⟨a3,a4⟩:=a2.app
  obtain⟨a5,a6⟩:=a4.app
  obtain⟨a7,a8⟩:=a6.app
  obtain⟨a9,Cx⟩:=a8.app
  have l1:([91]::(aS [44] Uc++[[93]])).length=1+(aS [44] Uc).length+1:=by simp only[List.length_cons,List.length_append,List.length_nil];omega
  have l2:([40]::(aS [44] Up++[[41]])).length=1+(aS [44] Up).length+1:=by simp only[List.length_cons,List.length_append,List.length_nil];omega
  obtain⟨C',h1,h2⟩:=MO lc a5
  obtain⟨P',h3,h4⟩:=MQ lp a7
  have k1:=Vh hn a3 (cu.of (L:=[[91]]) (N:=[]) a5.1 rfl) rfl
  obtain⟨y',h5,h6⟩:=qM.rd t _ a9 ((Cx.head bz.hd).sub rfl)
  obtain⟨z',h7,h8⟩:=bz.rd t _ Cx trivial
  have h2':Ev (fun n=>jZ t n) ⟨i+1+(pFn n).length,0,0⟩ (C',⟨i+1+(pFn n).length+([91]::(aS [44] Uc++[[93]])).length,0,0⟩):=Ev.to h2 (by omega)
  have h4':Ev (fun n=>iw t (gG t n 0) n) ⟨i+1+(pFn n).length+([91]::(aS [44] Uc++[[93]])).length,0,0⟩ (P',⟨i+1+(pFn n).length+([91]::(aS [44] Uc++[[93]])).length+([40]::(aS [44] Up++[[41]])).length,0,0⟩):=Ev.to h4 (by omega)
  have h6':Ev (fun n=>dQ t (gG t n 0)) _ (y',_):=h6
  have h8':Ev (fun n=>gG t n 3) _ (z',_):=h8
  have hl:(C'.length:Int)=(C.length:Int):=by have:=congrArg List.length h1;simp at this;omega
  have e0:i+1+(pFn n).length+([91]::(aS [44] Uc++[[93]])).length+([40]::(aS [44] Up++[[41]])).length+wy.length+uz.length=i+([102,110]::(pFn n++(([91]::(aS [44] Uc++[[93]]))++(([40]::(aS [44] Up++[[41]]))++(wy++uz))))).length:=by simp only[List.length_cons,List.length_append,List.length_nil];omega
  refine⟨nd 46 (t.pos i) n (C'.length:Int) E0 (C'++P'++[y',z']),by rw[hl];exact bD (by simp[h1,h3,h5,h7]),tZ (Ev.to ?_ e0)⟩
  have main:Ev (fun n=>gI t (gG t n 0) (gG t n 3) n) ⟨i,0,0⟩ (nd 46 (t.pos i) n (C'.length:Int) E0 (C'++P'++[y',z']),⟨i+1+(pFn n).length+([91]::(aS [44] Uc++[[93]])).length+([40]::(aS [44] Up++[[41]])).length+wy.length+uz.length,0,0⟩):=by
   unfold gI
   exact evs
  unfold aX bO
  exact evs
theorem Tn {p:Int} {C:List (List Nr)} {y z:List Nr} (hC:∀x∈C,Bb x) (hy:PT y) (hz:PB z):PX (nd 48 p 0 (C.length:Int) E0 (C++[y,z])):=by
 obtain⟨Kc,Uc,lc⟩:=J9 hC
 obtain⟨Ky,wy,qM⟩:=J7 hy
 obtain⟨Kz,uz,bz⟩:=hz
 have hg:Gr 48 0 (C.length:Int) E0 ((C++[y,z]).map bA):=by
  constructor<;>intro e<;>first|exact absurd e (by decide)|exact⟨C.map bA,bA y,bA z,by simp,by simp,lc.lb,qM.lb.no,by rw[bz.lb];unfold dB;omega⟩
 have hz2:Zip Pt (C++[y,z]) (Kc++[Ky,Kz]):=lc.pt.app ⟨qM.pt,bz.pt,trivial⟩
 refine PX.rP (K:=⟨48,_,_⟩) (us:=[115,112,97,119,110]::(([91]::(aS [44] Uc++[[93]]))++(wy++uz))) (Pt.nd hz2 hg) (by rw[dA];unfold dB lab;simp) rfl ?_ (aV rfl (bE (aV rfl (bE (kF rfl lc.ok) (by decide))) (bE qM.ok bz.ok))) ⟨_,_,rfl,rfl⟩ ?_
 ·have e1:(C.length:Int).toNat=Kc.length:=by rw[lc.len.2];simp
  obtain⟨t1,t2,t3,t4⟩:=Vr (A:=Kc) (B:=[]) (a:=Ky) (b:=Kz)
  show glue _=glue ([115,112,97,119,110]::(bF [91] [93] ((Kc++[Ky,Kz]).take (C.length:Int).toNat)++(kN (kd (Kc++[Ky,Kz]) (C.length:Int).toNat)++(kd (Kc++[Ky,Kz]) ((C.length:Int).toNat+1)).t)))
  have hl:(Kc++([]++[Ky,Kz])).length=Kc.length+2:=by simp
  rw[hl] at t3 t4
  have t3':kd (Kc++[Ky,Kz]) Kc.length=Ky:=by simpa using t3
  have t4':kd (Kc++[Ky,Kz]) (Kc.length+1)=Kz:=t4
  rw[e1,List.take_left,t3',t4']
  unfold bF
  simp only[aQ,aN,iO lc.gl,qM.gl,bz.gl]
 ·rintro t i ⟨a1,a4⟩ hf
  obtain⟨a5,a6⟩:=a4.app
  obtain⟨a9,Cx⟩:=a6.app
  have l1:([91]::(aS [44] Uc++[[93]])).length=1+(aS [44] Uc).length+1:=by simp only[List.length_cons,List.length_append,List.length_nil];omega
  obtain⟨C',h1,h2⟩:=MO lc a5
  obtain⟨y',h5,h6⟩:=qM.rd t _ a9 ((Cx.head bz.hd).sub rfl)
  obtain⟨z',h7,h8⟩:=bz.rd t _ Cx trivial
  have h2':Ev (fun n=>jZ t n) ⟨i+1,0,0⟩ (C',⟨i+1+([91]::(aS [44] Uc++[[93]])).length,0,0⟩):=Ev.to h2 (by omega)
  have h6':Ev (fun n=>dQ t (gG t n 0)) _ (y',_):=h6
  have h8':Ev (fun n=>gG t n 3) _ (z',_):=h8
  have hl:(C'.length:Int)=(C.length:Int):=by have:=congrArg List.length h1;simp at this;omega
  have e0:i+1+([91]::(aS [44] Uc++[[93]])).length+wy.length+uz.length=i+([115,112,97,119,110]::(([91]::(aS [44] Uc++[[93]]))++(wy++uz))).length:=by simp only[List.length_cons,List.length_append,List.length_nil];omega
  refine⟨nd 48 (t.pos i) 0 (C'.length:Int) E0 (C'++[y',z']),by rw[hl];exact bD (by simp[h1,h5,h7]),tZ (Ev.to ?_ e0)⟩
  unfold aX bO
  exact evs
abbrev mLt:Tk→Nat→GP (List Nr):=fun t n=>kL t (gG t n 0) (gG t n 1)
def FoS (t:Tk) (j:Nat):Prop:=cu t j [[59]] []
def Og (x:List Nr):Prop:=∃K us,Bk mLt FoS [[108,101,116]] [] dB x K us
theorem Oh {p m k:Int} {s:ByteArray} {ks:List (List Nr)} (hs:nI s) (hm:m=0∨m=1) (h:(k=0∧ks=[])∨(∃y,k=1∧ks=[y]∧PT y)∨(∃z,k=2∧ks=[z]∧PX z)∨∃y z,k=3∧ks=[y,z]∧PT y∧PX z):Og (nd 43 p k m s ks):=by
 obtain⟨Ks,ws,hz,hgl,hok,hlb,hc,hrd⟩:∃Ks ws,Zip Pt ks Ks∧glue ws=glue (aC (k%2==1) ([58]::(kd Ks 0).t)++aC (decide (2≤k)) ([61]::(kd Ks (k%2).toNat).t))∧(∀u∈ws,okW u=true)∧(∀x∈ks.map bA,dB x)∧(k=0∧(ks.map bA).length=0∨(k=1∨k=2)∧(ks.map bA).length=1∨k=3∧(ks.map bA).length=2)∧∀(t:Tk) (i:Nat) (p m:Int),At t i ws→FoS t (i+ws.length)→∃ks',ks'.map er=ks.map er∧Ev (fun n=>bnd (aY t ⟨#[58]⟩) (fun b19=>cond (b19) (bnd (gG t n 0) (fun y=>bnd (aY t ⟨#[61]⟩) (fun b17=>cond (b17) (bnd (gG t n 1) (fun z=>ret (nd 43 p 3 m s [y,z]))) (ret (nd 43 p 1 m s [y]))))) (bnd (aY t ⟨#[61]⟩) (fun b18=>cond (b18) (bnd (gG t n 1) (fun z=>ret (nd 43 p 2 m s [z]))) (ret (nd 43 p 0 m s [])))))) ⟨i,0,0⟩ (nd 43 p k m s ks',⟨i+ws.length,0,0⟩):=by
  rcases h with⟨rfl,rfl⟩|⟨y,rfl,rfl,⟨K,u,b⟩,-⟩|⟨z,rfl,rfl,K,u,o,b⟩|⟨y,z,rfl,rfl,⟨⟨K,u,b⟩,-⟩,K2,u2,o2,b2⟩
  ·refine⟨[],[],trivial,rfl,iZ,(fun _ h=>by cases h),(by simp),fun t i p m hat hf=>⟨[],rfl,?_⟩⟩
   have hf':cu t i [[59]] []:=hf
   exact evs
  ·refine⟨[K],[58]::u,⟨b.pt,trivial⟩,?_,aV rfl b.ok,?_,by simp,?_⟩
   ·show glue _=glue (([58]::K.t)++[])
    simp only[aQ,b.gl,List.append_nil]
   ·intro x hx
    rw[List.mem_singleton.1 hx]
    exact b.lb.no
   ·rintro t i p m ⟨a1,a2⟩ hf
    have e0:i+([58]::u).length=i+1+u.length:=by simp only[List.length_cons];omega
    rw[e0] at hf⊢
    have hf':cu t (i+1+u.length) [[59]] []:=hf
    obtain⟨y',h1,h2⟩:=b.rd t _ a2 (hf'.sub rfl)
    have h2':Ev (fun n=>gG t n 0) ⟨i+1,0,0⟩ (y',⟨i+1+u.length,0,0⟩):=h2
    exact⟨[y'],by simp[h1],evs⟩
  ·refine⟨[K],[61]::u,⟨b.pt,trivial⟩,?_,aV rfl b.ok,?_,by simp,?_⟩
   ·show glue _=glue ([61]::K.t)
    simp only[aQ,b.gl]
   ·intro x hx
    rw[List.mem_singleton.1 hx]
    exact b.lb
   ·rintro t i p m ⟨a1,a2⟩ hf
    have e0:i+([61]::u).length=i+1+u.length:=by simp only[List.length_cons];omega
    rw[e0] at hf⊢
    have hf':cu t (i+1+u.length) [[59]] []:=hf
    obtain⟨y',h1,h2⟩:=b.rd t _ a2 (hf'.sub rfl)
    have h2':Ev (fun n=>gG t n 1) ⟨i+1,0,0⟩ (y',⟨i+1+u.length,0,0⟩):=h2
    exact⟨[y'],by simp[h1],evs⟩
  ·refine⟨[K,K2],[58]::(u++([61]::u2)),⟨b.pt,b2.pt,trivial⟩,?_,aV rfl (bE b.ok (aV rfl b2.ok)),?_,by simp,?_⟩
   ·show glue _=glue (([58]::K.t)++([61]::K2.t))
    simp only[aQ,aN,b.gl,b2.gl,List.cons_append]
   ·intro x hx
    rcases List.mem_cons.1 hx with rfl|hx
    ·exact b.lb.no
    ·rw[List.mem_singleton.1 hx]
     exact b2.lb
   ·rintro t i p m ⟨a1,a2⟩ hf
    obtain⟨a3,a4,a5⟩:=a2.app
    have e0:i+([58]::(u++([61]::u2))).length=i+1+u.length+1+u2.length:=by simp only[List.length_cons,List.length_append];omega
    rw[e0] at hf⊢
    have hf':cu t (i+1+u.length+1+u2.length) [[59]] []:=hf
    obtain⟨y',h1,h2⟩:=b.rd t _ a3 ⟨_,a4,.inl rfl⟩
    obtain⟨z',h3,h4⟩:=b2.rd t _ a5 (hf'.sub rfl)
    have h2':Ev (fun n=>gG t n 0) ⟨i+1,0,0⟩ (y',⟨i+1+u.length,0,0⟩):=h2
    have h4':Ev (fun n=>gG t n 1) ⟨i+1+u.length+1,0,0⟩ (z',⟨i+1+u.length+1+u2.length,0,0⟩):=h4
    exact⟨[y',z'],by simp[h1,h3],evs⟩
 have hg:Gr 43 k m s (ks.map bA):=by
  constructor<;>intro e<;>first|exact absurd e (by decide)|exact⟨hlb,hc⟩
 refine⟨_,[108,101,116]::(aC (m==1) [[109,117,116]]++(s.data.toList::ws)),Pt.nd hz hg,?_,aV rfl (bE (by rcases hm with rfl|rfl<;>decide) (aV hs.2 hok)),⟨_,_,rfl,rfl⟩,?_,by rw[dA];unfold dB lab;simp⟩
 ·show glue _=glue ([108,101,116]::(aC (m==1) [[109,117,116]]++(s.data.toList::_)))
  simp only[aQ,aN,hgl]
 ·rintro t i ⟨a1,a2⟩ hf
  obtain⟨a3,a4,a5⟩:=a2.app
  have e0:i+([108,101,116]::(aC (m==1) [[109,117,116]]++(s.data.toList::ws))).length=i+1+(aC (m==1) [[109,117,116]]).length+1+ws.length:=by simp only[List.length_cons,List.length_append];omega
  rw[e0] at hf⊢
  obtain⟨ks',h1,h2⟩:=hrd t _ (t.pos i) m a5 hf
  refine⟨nd 43 (t.pos i) k m s ks',bD h1,?_⟩
  show Ev (fun n=>kL t (gG t n 0) (gG t n 1)) _ _
  rcases hm with rfl|rfl
  ·have a4':dI t (i+1) s.data.toList:=a4
   have c0:cu t (i+1) [] [2]:=⟨_,a4',.inr (by rw[hs.1];rfl)⟩
   unfold kL
   exact Ev.ak bL (Ev.seq (bP (fD a1 rfl)) (Ev.ak (Ms (bQ c0 rfl)) (Ev.ak (sW hs a4') h2)))
  ·have a3':dI t (i+1) [109,117,116]:=a3.1
   have a4':dI t (i+1+1) s.data.toList:=a4
   unfold kL
   exact Ev.ak bL (Ev.seq (bP (fD a1 rfl)) (Ev.ak (Mr (fD a3' rfl)) (Ev.ak (sW hs a4') h2)))
abbrev LE5:List Wd:=[[45],[33],[42],[38],[116,114,117,101],[102,97,108,115,101],[98,114,101,97,107],[110,101,120,116],[112,97,110,105,99],[114,101,116,117,114,110],[109,97,107,101],[102,110],[115,112,97,119,110],[40]]
abbrev wV (t:Tk) (i:Nat):Bool:=au t i 0 0 ⟨#[105,102]⟩||(au t i 0 0 ⟨#[109,97,116,99,104]⟩||(au t i 0 0 ⟨#[119,104,105,108,101]⟩||(au t i 0 0 ⟨#[108,111,111,112]⟩||au t i 0 0 ⟨#[123]⟩)))
theorem ab6 {t:Tk} {i:Nat} {u:Wd} (h:dI t i u) (h2:five.contains u=true):wV t i=true:=by
 unfold wV
 simp only[wO h]
 simp only[List.contains_iff_mem,List.mem_cons,List.not_mem_nil,or_false] at h2
 rcases h2 with rfl|rfl|rfl|rfl|rfl<;>rfl
theorem ab7 {t:Tk} {i:Nat} (h:cu t i LE5 [1,2]):wV t i=false:=by
 unfold wV
 rw[bQ (W:=⟨#[105,102]⟩) h rfl,bQ (W:=⟨#[109,97,116,99,104]⟩) h rfl,bQ (W:=⟨#[119,104,105,108,101]⟩) h rfl,bQ (W:=⟨#[108,111,111,112]⟩) h rfl,bQ (W:=⟨#[123]⟩) h rfl]
 rfl
def SL (x:List Nr) (us:List Wd):Prop:=qC mLt FoS x us∧∃r,us=[108,101,116]::r
def SX (x:List Nr) (us:List Wd):Prop:=∀(t:Tk) (i:Nat),At t i us→xI t (i+us.length)→(cu t i LE [1,2]∧∃y',er y'=er x∧Ev (fun n=>cond (wV t i) (gG t n 6) (gG t n 1)) ⟨i,0,0⟩ (y',⟨i+us.length,0,0⟩))
theorem BX.sx {x:List Nr} {K:Kd} {us os:List Wd} (b:BX x K us os):SX x us:=fun t i hat hf=>by
 refine⟨hat.head b.hd,?_⟩
 obtain⟨u,r,e,h2⟩:=b.hd
 have a1:dI t i u:=by rw[e] at hat;exact hat.1
 by_cases h5:five.contains u=true
 ·obtain⟨y',h3,h4⟩:=b.al u r e h5 t i hat hf
  exact⟨y',h3,Ev.yes (ab6 a1 h5) h4⟩
 ·obtain⟨y',h3,h4⟩:=b.rd t i hat hf
  refine⟨y',h3,Ev.no (ab7 ⟨u,a1,?_⟩) h4⟩
  rw[Bool.or_eq_true] at h2
  rcases h2 with h2|h2
  ·refine .inl ?_
   simp only[List.contains_iff_mem,List.mem_cons,List.not_mem_nil,or_false] at h2 h5⊢
   rcases h2 with h|h|h|h|h|h
   ·exact absurd (.inl h) h5
   ·exact absurd (.inr (.inl h)) h5
   ·exact absurd (.inr (.inr (.inl h))) h5
   ·exact absurd (.inr (.inr (.inr (.inl h)))) h5
   ·exact absurd (.inr (.inr (.inr (.inr h)))) h5
   ·exact h
  ·exact .inr h2
def qN (n:Int):List (List Wd)→List Wd
 |[]=>[]
 |u::r=>u++(aC (n==0||r.length !=0) [[59]]++qN n r)
abbrev wW (t:Tk) (n:Nat):List (List Nr) × Int→GP (Bool × (List (List Nr) × Int)):=oQ t (kL t (gG t n 0) (gG t n 1)) (gG t n 1) (gG t n 6)
section
variable {t:Tk} {i j:Nat} {o:List (List Nr)} {y:List Nr} {v:Int}
theorem ab8 (h0:au t i 0 0 ⟨#[108,101,116]⟩=true) (h00:au t i 0 0 ⟨#[125]⟩=false) (h1:Ev (fun n=>kL t (gG t n 0) (gG t n 1)) ⟨i,0,0⟩ (y,⟨j,0,0⟩)) (h2:au t j 0 0 ⟨#[59]⟩=true):Ev (fun n=>wW t n (o,v)) ⟨i,0,0⟩ ((true,(o++[y],v)),⟨j+1,0,0⟩):=by
 unfold wW oQ;exact evs
theorem aft (hc:cu t i LE [1,2]) (h1:Ev (fun n=>cond (wV t i) (gG t n 6) (gG t n 1)) ⟨i,0,0⟩ (y,⟨j,0,0⟩)) (h2:au t j 0 0 ⟨#[59]⟩=true):Ev (fun n=>wW t n (o,v)) ⟨i,0,0⟩ ((true,(o++[y],v)),⟨j+1,0,0⟩):=by
 unfold wW oQ
 refine Ev.ak bT (Hy rfl (Ev.ak (dn (bQ hc rfl)) (Ev.no rfl (Ev.ak aI (Ev.no (bQ hc rfl) (Ev.ak aI (Ev.ak aI (Ev.ak aI (Ev.ak aI (Ev.ak aI (Ev.ak h1 ?_)))))))))))
 exact evs
theorem Yt (hc:cu t i LE [1,2]) (h1:Ev (fun n=>cond (wV t i) (gG t n 6) (gG t n 1)) ⟨i,0,0⟩ (y,⟨j,0,0⟩)) (h2:dI t j [125]):Ev (fun n=>wW t n (o,v)) ⟨i,0,0⟩ ((true,(o++[y],1)),⟨j,0,0⟩):=by
 unfold wW oQ
 refine Ev.ak bT (Hy rfl (Ev.ak (dn (bQ hc rfl)) (Ev.no rfl (Ev.ak aI (Ev.no (bQ hc rfl) (Ev.ak aI (Ev.ak aI (Ev.ak aI (Ev.ak aI (Ev.ak aI (Ev.ak h1 ?_)))))))))))
 exact evs
theorem QL (h:dI t i [125]):Ev (fun n=>wW t n (o,v)) ⟨i,0,0⟩ ((false,(o,v)),⟨i+1,0,0⟩):=by
 unfold wW oQ;exact evs
theorem Kh {n:Int} (hn:n=0∨n=1):∀{F:List (List Nr)} {Us:List (List Wd)},Zip (fun x us=>SL x us∨SX x us) F Us→(n=1→∃x us,F.getLast? =some x∧Us.getLast? =some us∧SX x us)→∀(i:Nat) (o:List (List Nr)),At t i (qN n Us++[[125]])→∃F',F'.map er=F.map er∧EvL (wW t) (o,0) ⟨i,0,0⟩ ((o++F',n),⟨i+(qN n Us).length+1,0,0⟩)
 |[],[],_,hl,i,o,hat=>by
  have h0:n=0:=by
   rcases hn with h|h
   ·exact h
   ·obtain⟨x,us,h1,-,-⟩:=hl h
    cases h1
  subst h0
  refine⟨[],rfl,?_⟩
  rw[List.append_nil]
  exact EvL.stop (QL hat.1)
 |x::F,u::Us,hz,hl,i,o,hat=>by
  by_cases hs:(n==0||Us.length !=0)=true
  ·have e1:qN n (u::Us)=u++([59]::qN n Us):=by
    show u++(aC (n==0||Us.length !=0) [[59]]++qN n Us)=_
    rw[hs];rfl
   rw[e1] at hat⊢
   rw[List.append_assoc] at hat
   obtain⟨a1,a2,a3⟩:=hat.app
   have hl2:n=1→∃x us,F.getLast? =some x∧Us.getLast? =some us∧SX x us:=fun h1=>by
    obtain⟨x2,u2,h2,h3,h4⟩:=hl h1
    have hU:Us≠[]:=by
     intro e
     rw[e,h1] at hs
     exact absurd hs (by decide)
    have hF:F≠[]:=by
     intro e
     subst e
     cases Us with
     |nil=>exact hU rfl
     |cons _ _=>exact hz.2.elim
    refine⟨x2,u2,?_,?_,h4⟩
    ·cases F with
     |nil=>exact absurd rfl hF
     |cons a b=>rw[List.getLast?_cons_cons] at h2;exact h2
    ·cases Us with
     |nil=>exact absurd rfl hU
     |cons a b=>rw[List.getLast?_cons_cons] at h3;exact h3
   have e2:i+(u++[59]::qN n Us).length+1=i+u.length+1+(qN n Us).length+1:=by simp only[List.length_append,List.length_cons];omega
   rw[e2]
   rcases hz.1 with hL|hX
   ·obtain⟨x',h1,h2⟩:=hL.1 t i a1 ⟨_,a2,.inl rfl⟩
    obtain⟨F',h3,h4⟩:=Kh hn hz.2 hl2 (i+u.length+1) (o++[x']) a3
    rw[List.append_assoc] at h4
    obtain⟨r,e⟩:=hL.2
    have b1:dI t i [108,101,116]:=by rw[e] at a1;exact a1.1
    exact⟨x'::F',by rw[List.map_cons,List.map_cons,h1,h3],EvL.on (ab8 (fD b1 rfl) (gY b1 rfl) h2 (fD a2 rfl)) h4⟩
   ·obtain⟨c1,x',h1,h2⟩:=hX t i a1 ⟨_,a2,.inl rfl⟩
    obtain⟨F',h3,h4⟩:=Kh hn hz.2 hl2 (i+u.length+1) (o++[x']) a3
    rw[List.append_assoc] at h4
    exact⟨x'::F',by rw[List.map_cons,List.map_cons,h1,h3],EvL.on (aft c1 h2 (fD a2 rfl)) h4⟩
  ·have hs':(n==0||Us.length !=0)=false:=by
    cases h:(n==0||Us.length !=0)
    ·rfl
    ·exact absurd h hs
   rw[Bool.or_eq_false_iff] at hs'
   have h1:n=1:=by
    rcases hn with h|h
    ·rw[h] at hs';exact absurd hs'.1 (by decide)
    ·exact h
   have hU:Us=[]:=by
    cases Us with
    |nil=>rfl
    |cons _ _=>exact absurd hs'.2 (by simp)
   subst hU
   have hF:F=[]:=by
    cases F with
    |nil=>rfl
    |cons _ _=>exact hz.2.elim
   subst hF h1
   obtain⟨x2,u2,h2,h3,h4⟩:=hl rfl
   obtain rfl:x=x2:=Option.some.inj h2
   obtain rfl:u=u2:=Option.some.inj h3
   have e1:qN 1 [u]=u:=by show u++([]++[])=u;simp
   rw[e1] at hat⊢
   obtain⟨a1,a2,-⟩:=hat.app
   obtain⟨c1,x',h5,h6⟩:=h4 t i a1 ⟨_,a2,.inl rfl⟩
   exact⟨[x'],by simp[h5],EvL.on (Yt c1 h6 a2) (EvL.stop (QL a2))⟩
 |[],_::_,hz,_,_,_,_=>hz.elim
 |_::_,[],hz,_,_,_,_=>hz.elim
end
def PS (x:List Nr):Prop:=Og x∨PX x
structure LSt (F:List (List Nr)) (Ks:List Kd) (Us:List (List Wd)):Prop where
 pt:Zip Pt F Ks
 gl:Zip (fun us K=>glue us=glue K.t) Us Ks
 ok:∀us∈Us,∀u∈us,okW u=true
 rd:Zip (fun x us=>SL x us∨SX x us) F Us
 lb:∀x∈F.map bA,dB x
 last:∀x,F.getLast? =some x→PX x→∃us,Us.getLast? =some us∧SX x us
theorem QM:∀{F:List (List Nr)},(∀x∈F,PS x)→∃Ks Us,LSt F Ks Us
 |[],_=>⟨[],[],⟨trivial,trivial,(fun _ h=>nomatch h),trivial,(fun _ h=>nomatch h),(fun _ h=>nomatch h)⟩⟩
 |x::F,h=>by
  obtain⟨K,us,h1,h2,h3,h4,h5,h6⟩:∃K us,Pt x K∧glue us=glue K.t∧(∀u∈us,okW u=true)∧(SL x us∨SX x us)∧dB (bA x)∧(PX x→SX x us):=by
   by_cases hx:PX x
   ·obtain⟨K,us,os,b⟩:=hx
    exact⟨K,us,b.pt,b.gl,b.ok,.inr b.sx,b.lb,fun _=>b.sx⟩
   ·rcases h x (List.mem_cons_self ..) with hl|hl
    ·obtain⟨K,us,b⟩:=hl
     exact⟨K,us,b.pt,b.gl,b.ok,.inl ⟨b.rd,BP (L:=[]) b.hd⟩,b.lb,fun h=>absurd h hx⟩
    ·exact absurd hl hx
  obtain⟨Ks,Us,l⟩:=QM (F:=F) (fun y hy=>h y (List.mem_cons_of_mem _ hy))
  refine⟨K::Ks,us::Us,⟨h1,l.pt⟩,⟨h2,l.gl⟩,?_,⟨h4,l.rd⟩,?_,?_⟩
  ·intro v hv
   rcases List.mem_cons.1 hv with rfl|hv
   ·exact h3
   ·exact l.ok v hv
  ·intro v hv
   rcases List.mem_cons.1 hv with rfl|hv
   ·exact h5
   ·exact l.lb v hv
  ·intro y hy hpy
   have hz:=l.rd
   cases F with
   |nil=>
    obtain rfl:x=y:=Option.some.inj hy
    cases Us with
    |nil=>exact⟨us,rfl,h6 hpy⟩
    |cons _ _=>exact hz.elim
   |cons a b=>
    cases Us with
    |nil=>exact hz.elim
    |cons c d=>
     rw[List.getLast?_cons_cons] at hy⊢
     exact l.last y hy hpy
theorem Ki {n:Int}:∀{Us:List (List Wd)} {Ks:List Kd},Zip (fun us K=>glue us=glue K.t) Us Ks→glue (qN n Us)=glue (nO n Ks)
 |[],[],_=>rfl
 |u::Us,K::Ks,h=>by
  unfold qN nO
  simp only[aN,Ki h.2,h.1,h.2.len]
 |[],_::_,hz=>hz.elim
 |_::_,[],hz=>hz.elim
theorem QN {n:Int}:∀{Us:List (List Wd)},(∀us∈Us,∀u∈us,okW u=true)→∀u∈qN n Us,okW u=true
 |[],_=>iZ
 |v::Us,h=>by
  unfold qN
  refine bE (h v (List.mem_cons_self ..)) (bE ?_ (QN (fun us dS=>h us (List.mem_cons_of_mem _ dS))))
  unfold aC
  split
  ·decide
  ·exact iZ
theorem nB {p n:Int} {F:List (List Nr)} (hF:∀x∈F,PS x) (hn:n=0∨n=1∧∃A y,F=A++[y]∧PX y):PB (nd 42 p n 0 E0 F):=by
 obtain⟨Ks,Us,l⟩:=QM hF
 have hg:Gr 42 n 0 E0 (F.map bA):=by
  constructor<;>intro e<;>first|exact absurd e (by decide)|exact l.lb
 have hn':n=0∨n=1:=hn.imp id (fun h=>h.1)
 have hlast:n=1→∃x us,F.getLast? =some x∧Us.getLast? =some us∧SX x us:=fun h=>by
  rcases hn with h0|⟨-,A,y,e,hy⟩
  ·omega
  ·have h1:F.getLast? =some y:=by rw[e];simp
   obtain⟨us,h2,h3⟩:=l.last y h1 hy
   exact⟨y,us,h1,h2,h3⟩
 refine⟨⟨42,F.length,_⟩,[123]::(qN n Us++[[125]]),Pt.nd l.pt hg,?_,aV rfl (bE (QN l.ok) (by decide)),⟨_,_,rfl,rfl⟩,?_,by rw[dA];simp[lab]⟩
 ·show glue _=glue ([123]::(nO n Ks++[[125]]))
  simp only[aQ,aN,Ki l.gl]
 ·rintro t i ⟨a1,a2⟩ -
  obtain⟨F',h1,h2⟩:=Kh hn' l.rd hlast (i+1) [] a2
  have e0:i+([123]::(qN n Us++[[125]])).length=i+1+(qN n Us).length+1:=by simp only[List.length_cons,List.length_append,List.length_nil];omega
  rw[e0]
  have h3:Ev (fun m=>loop (wW t m) m ([],0)) ⟨i+1,0,0⟩ ((F',n),⟨i+1+(qN n Us).length+1,0,0⟩):=h2.ev
  refine⟨nd 42 (t.pos i) n 0 E0 F',bD h1,Ev.up (m:=fun m=>kZ t (kL t (gG t m 0) (gG t m 1)) (gG t m 1) (gG t m 6) m) ?_ (fun _=>rfl)⟩
  show Ev (fun m=>bnd (dh t) (fun p=>seq (aM t ⟨#[123]⟩) (bnd (loop (wW t m) m ([],0)) (fun r=>ret (nd 42 p r.2 0 E0 r.1))))) _ _
  exact Ev.ak bL (Ev.seq (bP (fD a1 rfl)) (Ev.ak h3 Ev.ret'))
section
variable {t:Tk} {T E B Q J U P X:GP (List Nr)} {fu:Nat} {k:Int} {w:ByteArray} {ss:List ByteArray}
abbrev lJ (E:GP (List Nr)):Prop:=(∀i,wp E (fun x _=>PX x) i)∧Sy E
abbrev EF (E:GP (List Nr)):Prop:=(∀i,wp E (fun x _=>PB x) i)∧Sy E
abbrev QO (E:GP (List Nr)):Prop:=(∀i,wp E (fun x _=>PJ x) i)∧Sy E
theorem QS (hX:lJ X) (hn:∀v∈ss,∀p l r,PX l→PX r→PX (nd 29 p 0 0 v [l,r])) (i:Nat):wp (mD t ss X fu) (fun x _=>PX x) i:=by
 have sX:=hX.2
 unfold mD
 refine av (hX.1 i) (fun _=>aA) fun l j hl=>?_
 refine wp_loop (I:=fun x _=>PX x) (fun _=>aA) ?_ fu l j hl
 intro l j hl
 refine fF (wp_cond (fun _=>wh fun v hv=>?_) (fun h=>by cases h))
 refine wp_cond (fun _=>wp_ret ⟨(fun h=>by cases h),fun _=>hl⟩) (fun h0=>bM (aO aA fun _=>av (hX.1 _) (fun _=>aA) fun r j2 hr=>wp_ret ⟨fun _=>?_,(fun h=>by cases h)⟩))
 rcases hv with h1|h1
 ·rw[h1] at h0;exact absurd h0 (by decide)
 ·exact hn v h1.1 _ l r hl hr
theorem Vs (hX:lJ X) (hn:∀p l r,PX l→PX r→PX (nd k p 0 0 E0 [l,r])) (i:Nat):wp (oO t k w X fu) (fun x _=>PX x) i:=by
 have sX:=hX.2
 unfold oO
 refine av (hX.1 i) (fun _=>aA) fun l j hl=>?_
 refine wp_loop (I:=fun x _=>PX x) (fun _=>aA) ?_ fu l j hl
 intro l j hl
 exact fF (bJ (wp_cond (fun _=>bM (aO aA fun _=>av (hX.1 _) (fun _=>aA) fun r j2 hr=>wp_ret ⟨fun _=>hn _ l r hl hr,(fun h=>by cases h)⟩)) (fun _=>wp_ret ⟨(fun h=>by cases h),fun _=>hl⟩)))
theorem ab9 (hU:lJ U):lJ (vH t U fu):=by
 have sU:=hU.2
 exact⟨fun i=>QS hU (fun v hv p l r=>two_mul hv) i,aA⟩
theorem acd (hU:lJ U):lJ (kX t U fu):=by
 have sU:=hU.2
 exact⟨fun i=>QS (ab9 hU) (fun v hv p l r=>Yi hv) i,aA⟩
theorem ace (hU:lJ U):lJ (pJ t U fu):=by
 have sU:=hU.2
 have hA:lJ (kX t U fu):=acd hU
 refine⟨fun i=>?_,aA⟩
 unfold pJ
 refine av (hA.1 i) (fun _=>aA) fun l j hl=>wh fun v hv=>?_
 refine wp_cond (fun _=>wp_ret hl) (fun h0=>bM (aO aA fun _=>av (hA.1 _) (fun _=>aA) fun r j2 hr=>wp_ret ?_))
 rcases hv with h1|h1
 ·rw[h1] at h0;exact absurd h0 (by decide)
 ·exact Yj h1.1 hl hr
theorem acf (hU:lJ U):lJ (qQ t U fu):=by
 have sU:=hU.2
 exact⟨fun i=>Vs (ace hU) (fun p l r=>Yk) i,aA⟩
theorem ael (hU:lJ U):lJ (tC t U fu):=by
 have sU:=hU.2
 exact⟨fun i=>Vs (acf hU) (fun p l r=>abY) i,aA⟩
theorem acg (hE:lJ E) (hU:lJ U):lJ (jN t E U fu):=by
 have sU:=hU.2
 have sE:=hE.2
 refine⟨fun i=>?_,aA⟩
 unfold jN
 refine av ((ael hU).1 i) (fun _=>aA) fun l j hl=>bJ (wp_cond (fun _=>bM (aO aA fun _=>av (hE.1 _) (fun _=>aA) fun r j2 hr=>wp_ret (Yl hl hr))) (fun _=>wp_ret hl))
theorem toL {w:ByteArray} {l:List UInt8} (h:(w.toList==l)=true):w=⟨l.toArray⟩:=by
 rw[Lib.toList_data] at h
 have h1:w.data.toList=l:=by simpa using h
 cases w
 rw[←h1]
theorem ach (hU:lJ U) (hP:lJ P):lJ (eG t U P):=by
 have sU:=hU.2
 have sP:=hP.2
 refine⟨fun i=>?_,aA⟩
 unfold eG
 refine bM (wh fun v hv=>wp_cond (fun _=>hP.1 i) (fun h0=>aO aA fun _=>?_))
 refine wp_cond (fun h1=>av (hU.1 _) (fun _=>aA) fun y j hy=>wp_ret (abV ?_ hy)) (fun _=>?_)
 ·rw[Bool.or_eq_true] at h1
  exact h1.imp toL toL
 refine wp_cond (fun h1=>av (hU.1 _) (fun _=>aA) fun y j hy=>wp_ret (Tc hy)) (fun _=>?_)
 refine wp_cond (fun h1=>av yJ (fun _=>aA) fun n j hn=>av (hU.1 _) (fun _=>aA) fun y j2 hy=>wp_ret (J5 hn hy)) (fun _=>?_)
 exact av yJ (fun _=>aA) fun n j hn=>av (hU.1 _) (fun _=>aA) fun y j2 hy=>wp_ret (J5 (.inl rfl) (J5 hn hy))
theorem Yu (hg:GT t) (hE:lJ E) (hP:lJ P):lJ (fK t E P fu):=by
 have sE:=hE.2
 have sP:=hP.2
 refine⟨fun i=>?_,aA⟩
 unfold fK
 refine av (hP.1 i) (fun _=>aA) fun e j he=>?_
 refine wp_loop (I:=fun x _=>PX x) (fun _=>aA) ?_ fu e j he
 intro e j he
 refine fF (wp_cond (fun _=>bJ (wp_cond (fun _=>bM (aO aA fun _=>av (uN hE.1 hE.2 _) (fun _=>aA) fun F j2 hF=>wp_ret ⟨fun _=>Yh he hF,(fun h=>by cases h)⟩)) (fun _=>?_))) (fun h=>by cases h))
 refine bJ (wp_cond (fun _=>bM (aO aA fun _=>jq (wp_cond (fun _=>?_) (fun _=>?_)))) (fun _=>wp_ret ⟨(fun h=>by cases h),fun _=>he⟩))
 ·exact vE (fq (wp_ret ⟨fun _=>J4 he (.inr ⟨rfl,_,rfl,hg.nu _⟩),(fun h=>by cases h)⟩))
 ·exact dF hg (fun _=>aA) fun s hs _=>wp_ret ⟨fun _=>J4 he (.inl ⟨rfl,hs⟩),(fun h=>by cases h)⟩
theorem EG (hT:uq T) (i:Nat):wp (ig t T fu) (fun F _=>∀x∈F,PT x) i:=by
 unfold ig
 refine bJ (bJ (wp_cond (fun _=>fq ((JU hT.1 hT.2 _ _).mono ?_)) (fun _=>wp_ret (fun _ h=>by cases h))))
 rintro F j ⟨F2,rfl,-,h⟩
 exact h
theorem aem (hE:lJ E) (hB:EF B) (hJ:QO J):QO (rz t E B J):=by
 have sE:=hE.2
 have sB:=hB.2
 have sJ:=hJ.2
 refine⟨fun i=>?_,aA⟩
 unfold rz
 refine bM (aO aA fun _=>av (hE.1 _) (fun _=>aA) fun c j hc=>av (hB.1 _) (fun _=>aA) fun y j2 hy=>?_)
 refine aZ (fun _=>wp_cond (fun _=>bJ ?_) (fun h=>by cases h)) (fun _=>wp_cond (fun h=>by cases h) (fun _=>wp_ret (ab5 hc hy)))
 refine av (R:=fun z _=>PB z∨PJ z) (wp_cond (fun _=>(hJ.1 _).mono fun _ _ h=>.inr h) (fun _=>(hB.1 _).mono fun _ _ h=>.inl h)) (fun _=>aA) fun z j3 hz=>wp_ret (Tj hc hy hz)
theorem Tp (hE:lJ E) (hQ:QI Q) (i:Nat):wp (mQ t E Q fu) (fun x _=>PX x) i:=by
 have sE:=hE.2
 have sQ:=hQ.2
 unfold mQ
 refine bM (aO aA fun _=>av (hE.1 _) (fun _=>aA) fun c j hc=>aO aA fun _=>?_)
 refine av (R:=fun r _=>∃F,r=c::F∧∀x∈F,Oe x) (wp_loop (I:=fun r _=>∃F,r=c::F∧∀x∈F,Oe x) (fun _=>aA) ?_ fu _ _ ⟨[],rfl,fun _ h=>by cases h⟩) (fun _=>aA) ?_
 ·rintro o j2 ⟨F,rfl,hF⟩
  refine fF (av (R:=fun b _=>True) (fun _ _ _ _=>trivial) (fun _=>aA) fun b j3 _=>wp_cond (fun _=>wp_ret ⟨(fun h=>by cases h),fun _=>⟨F,rfl,hF⟩⟩) (fun _=>bM ?_))
  refine av (hQ.1 _) (fun _=>aA) fun y j4 hy=>aO aA fun _=>av (hE.1 _) (fun _=>aA) fun z j5 hz=>?_
  exact bJ (wp_cond (fun _=>wp_ret ⟨fun _=>⟨_,rfl,gy hF (ab2 hy hz)⟩,(fun h=>by cases h)⟩) (fun _=>aO aA fun _=>wp_ret ⟨fun _=>⟨_,rfl,gy hF (ab2 hy hz)⟩,(fun h=>by cases h)⟩))
 ·rintro r j2 ⟨F,rfl,hF⟩
  exact wp_ret (Tm hc hF)
theorem Yv (hg:GT t) (hT:uq T) (hE:lJ E) (i:Nat):wp (qx t T E fu) (fun x _=>PX x) i:=by
 have sE:=hE.2
 have sT:=hT.2
 unfold qx
 refine bM (aO aA fun _=>av (nV hg (by decide) _) (fun _=>aA) ?_)
 rintro s j ⟨⟨n,r,hp⟩,-,-⟩
 refine av (EG hT _) (fun _=>aA) fun w j2 hw=>aO aA fun _=>?_
 refine av (R:=fun r _=>∃G,r=w++G∧∀x∈G,Hz x) (wp_loop (I:=fun r _=>∃G,r=w++G∧∀x∈G,Hz x) (fun _=>aA) ?_ fu _ _ ⟨[],by simp,fun _ h=>by cases h⟩) (fun _=>aA) ?_
 ·rintro o j2 ⟨F,rfl,hF⟩
  refine fF (av (R:=fun b _=>True) (fun _ _ _ _=>trivial) (fun _=>aA) fun b j3 _=>wp_cond (fun _=>wp_ret ⟨(fun h=>by cases h),fun _=>⟨F,rfl,hF⟩⟩) (fun _=>bM ?_))
  refine dF hg (fun _=>aA) fun s2 hs _=>aO aA fun _=>av (hE.1 _) (fun _=>aA) fun z j5 hz=>?_
  exact bJ (wp_cond (fun _=>wp_ret ⟨fun _=>⟨_,List.append_assoc ..,gy hF (Vp hs hz)⟩,(fun h=>by cases h)⟩) (fun _=>aO aA fun _=>wp_ret ⟨fun _=>⟨_,List.append_assoc ..,gy hF (Vp hs hz)⟩,(fun h=>by cases h)⟩))
 ·rintro r j2 ⟨F,rfl,hF⟩
  exact wp_ret (Yq hp hw hF)
theorem Yw (hg:GT t) (hT:uq T) (hB:EF B) (i:Nat):wp (gI t T B fu) (fun x _=>PX x) i:=by
 have sT:=hT.2
 have sB:=hB.2
 unfold gI
 refine bM (aO aA fun _=>av Vl (fun _=>aA) fun n j hn=>av (MP hg _) (fun _=>aA) fun C j2 hC=>?_)
 exact av (MR hg hT _) (fun _=>aA) fun P j3 hP=>av (J8 hT _) (fun _=>aA) fun y j4 hy=>av (hB.1 _) (fun _=>aA) fun z j5 hz=>wp_ret (Yr hn hC hP hy hz)
theorem QT (hg:GT t) (hT:uq T) (hE:lJ E) (hB:EF B) (hQ:QI Q) (hJ:QO J) (i:Nat):wp (bO t T E B Q J fu) (fun x _=>PX x) i:=by
 have sT:=hT.2
 have sE:=hE.2
 have sB:=hB.2
 have sQ:=hQ.2
 have sJ:=hJ.2
 unfold bO
 refine bM (BK ?_)
 refine wp_cond (fun _=>fq (wp_ret (ML (.inr rfl)))) (fun _=>?_)
 refine wp_cond (fun _=>fq (wp_ret (ML (.inl rfl)))) (fun _=>?_)
 refine wp_cond (fun _=>fq (wp_ret Te)) (fun _=>?_)
 refine wp_cond (fun _=>fq (wp_ret Yn)) (fun _=>?_)
 refine wp_cond (fun _=>fq (wp_ret Tf)) (fun _=>?_)
 refine wp_cond (fun _=>fq (bJ (bJ (bJ (bJ (bJ (wp_cond (fun _=>wp_ret Yo) (fun _=>av (hE.1 _) (fun _=>aA) fun y j hy=>wp_ret (ab4 hy))))))))) (fun _=>?_)
 refine wp_cond (fun _=>(hJ.1 _).mono fun _ _ h=>aek h) (fun _=>?_)
 refine wp_cond (fun _=>Tp hE hQ _) (fun _=>?_)
 refine wp_cond (fun _=>fq (av (hE.1 _) (fun _=>aA) fun c j hc=>av (hB.1 _) (fun _=>aA) fun y j2 hy=>wp_ret (Ti hc hy))) (fun _=>?_)
 refine wp_cond (fun _=>fq (av (hB.1 _) (fun _=>aA) fun y j2 hy=>wp_ret (Yp hy))) (fun _=>?_)
 refine wp_cond (fun _=>Yv hg hT hE _) (fun _=>?_)
 refine wp_cond (fun _=>Yw hg hT hB _) (fun _=>?_)
 refine wp_cond (fun _=>fq (av (MP hg _) (fun _=>aA) fun C j hC=>av (J8 hT _) (fun _=>aA) fun y j4 hy=>av (hB.1 _) (fun _=>aA) fun z j5 hz=>wp_ret (Tn hC hy hz))) (fun _=>?_)
 exact qL aA
theorem Yx (hg:GT t) (hT:uq T) (hE:lJ E) (hB:EF B) (hQ:QI Q) (hJ:QO J):lJ (aX t T E B Q J fu):=by
 have sT:=hT.2
 have sE:=hE.2
 have sB:=hB.2
 have sQ:=hQ.2
 have sJ:=hJ.2
 refine⟨fun i=>?_,aA⟩
 unfold aX
 refine bM (fF (wp_cond (fun _=>Va ?_) (fun h=>by cases h)))
 refine wp_cond (fun _=>vE (fq (wp_ret (abT (hg.nu _))))) (fun _=>?_)
 refine wp_cond (fun _=>av (nV hg (by decide) _) (fun _=>aA) ?_) (fun _=>?_)
 ·rintro s j ⟨⟨n,r,hp⟩,-,-⟩
  exact av (EG hT _) (fun _=>aA) fun F j2 hF=>wp_ret (Yg hp hF)
 refine aZ (fun _=>wp_cond (fun _=>av (uN hE.1 hE.2 _) (fun _=>aA) fun F j hF=>wp_ret (abU hF)) (fun h=>by cases h)) (fun _=>wp_cond (fun h=>by cases h) (fun _=>?_))
 refine bJ (wp_cond (fun _=>(hB.1 _).mono fun _ _ h=>Tg h) (fun _=>?_))
 exact wp_cond (fun _=>QT hg hT hE hB hQ hJ _) (fun _=>qL aA)
theorem aci (hg:GT t) (hT:uq T) (hE:lJ E) (i:Nat):wp (kL t T E) (fun x _=>Og x) i:=by
 have sT:=hT.2
 have sE:=hE.2
 unfold kL
 refine bM (aO aA fun _=>av yJ (fun _=>aA) fun m j hm=>dF hg (fun _=>aA) fun s hs _=>?_)
 refine aZ (fun _=>wp_cond (fun _=>av (hT.1 _) (fun _=>aA) fun y j2 hy=>?_) (fun h=>by cases h)) (fun _=>wp_cond (fun h=>by cases h) (fun _=>?_))
 ·exact aZ (fun _=>wp_cond (fun _=>av (hE.1 _) (fun _=>aA) fun z j3 hz=>wp_ret (Oh hs hm (.inr (.inr (.inr ⟨_,_,rfl,rfl,hy,hz⟩))))) (fun h=>by cases h)) (fun _=>wp_cond (fun h=>by cases h) (fun _=>wp_ret (Oh hs hm (.inr (.inl ⟨_,rfl,rfl,hy⟩)))))
 ·exact aZ (fun _=>wp_cond (fun _=>av (hE.1 _) (fun _=>aA) fun z j3 hz=>wp_ret (Oh hs hm (.inr (.inr (.inl ⟨_,rfl,rfl,hz⟩))))) (fun h=>by cases h)) (fun _=>wp_cond (fun h=>by cases h) (fun _=>wp_ret (Oh hs hm (.inl ⟨rfl,rfl⟩))))
theorem Tq {Lt:GP (List Nr)} (hL:(∀i,wp Lt (fun x _=>Og x) i)∧Sy Lt) (hE:lJ E) (hP:lJ P):EF (kZ t Lt E P fu):=by
 have sL:=hL.2
 have sE:=hE.2
 have sP:=hP.2
 refine⟨fun i=>?_,aA⟩
 unfold kZ
 refine bM (aO aA fun _=>?_)
 refine av (R:=fun x _=>(∀y∈x.1,PS y)∧(x.2=0∨x.2=1∧∃A y,x.1=A++[y]∧PX y)) (wp_loop (I:=fun x i=>(∀y∈x.1,PS y)∧(x.2=0∨(x.2=1∧∃A y,x.1=A++[y]∧PX y)∧au t i 0 0 ⟨#[125]⟩=true)) (fun _=>aA) ?_ fu _ _ ⟨fun _ h=>(by cases h),.inl rfl⟩) (fun _=>aA) (fun x j hx=>wp_ret (nB hx.1 hx.2))
 rintro⟨o,v⟩ j ⟨h1,h2⟩
 refine fF ?_
 have hend:(∀y∈o,PS y)∧(v=0∨v=1∧∃A y,o=A++[y]∧PX y):=⟨h1,h2.imp id (fun h=>h.1)⟩
 refine av (R:=fun b j2=>(b=true)∨(b=false∧j2=j∧au t j 0 0 ⟨#[125]⟩=false)) ?_ (fun _=>aA) fun b j2 hb=>wp_cond (fun _=>wp_ret ⟨(fun h=>by cases h),fun _=>hend⟩) (fun hb2=>?_)
 ·refine wp_cond (fun _=>?_) (fun h=>by cases h)
  cases e:au t j 0 0 ⟨#[125]⟩
  ·intro a r e1 e2
   have:aY t ⟨#[125]⟩ ⟨j,0,a⟩=some (false,⟨j,0,a⟩):=by
    show(if au t j 0 0 ⟨#[125]⟩=true then _ else _)=_
    rw[e];rfl
   rw[this] at e1
   obtain rfl:=Option.some.inj e1
   exact .inr ⟨rfl,rfl,rfl⟩
  ·intro a r e1 e2
   have:aY t ⟨#[125]⟩ ⟨j,0,a⟩=some (true,⟨j+1,0,a⟩):=by
    show(if au t j 0 0 ⟨#[125]⟩=true then _ else _)=_
    rw[e];rfl
   rw[this] at e1
   obtain rfl:=Option.some.inj e1
   exact .inl rfl
 ·subst hb2
  rcases hb with hb|⟨-,rfl,hn⟩
  ·cases hb
  have hv:v=0:=by
   rcases h2 with h|⟨-,h⟩
   ·exact h
   ·rw[hn] at h;cases h
  subst hv
  refine bJ (wp_cond (fun _=>av (hL.1 _) (fun _=>aA) fun y j3 hy=>aO aA fun _=>wp_ret ⟨fun _=>⟨gy h1 (.inl hy),.inl rfl⟩,(fun h=>by cases h)⟩) (fun _=>?_))
  refine bJ (bJ (bJ (bJ (bJ ?_))))
  refine av (R:=fun y _=>PX y) (wp_cond (fun _=>hP.1 _) (fun _=>hE.1 _)) (fun _=>aA) fun y j3 hy=>?_
  refine aZ (fun _=>wp_cond (fun _=>wp_ret ⟨fun _=>⟨gy h1 (.inr hy),.inl rfl⟩,(fun h=>by cases h)⟩) (fun h=>by cases h)) (fun _=>wp_cond (fun h=>by cases h) (fun _=>bJ (wp_cond (fun he=>?_) (fun _=>?_))))
  ·exact wp_ret ⟨fun _=>⟨gy h1 (.inr hy),.inr ⟨⟨rfl,o,y,rfl,hy⟩,he⟩⟩,(fun h=>by cases h)⟩
  ·exact wp_cond (fun _=>wp_ret ⟨fun _=>⟨gy h1 (.inr hy),.inl rfl⟩,(fun h=>by cases h)⟩) (fun _=>qL aA)
theorem QU (hg:GT t):∀n,uq (gG t n 0)∧lJ (gG t n 1)∧lJ (gG t n 2)∧EF (gG t n 3)∧QO (gG t n 4)∧QI (gG t n 5)∧lJ (gG t n 6)
 |0=>by
  refine⟨⟨fun i a r h=>?_,dM _ _ _⟩,⟨fun i a r h=>?_,dM _ _ _⟩,⟨fun i a r h=>?_,dM _ _ _⟩,⟨fun i a r h=>?_,dM _ _ _⟩,⟨fun i a r h=>?_,dM _ _ _⟩,⟨fun i a r h=>?_,dM _ _ _⟩,⟨fun i a r h=>?_,dM _ _ _⟩⟩<;>exact absurd h (by simp[gG])
 |n+1=>by
  obtain⟨h0,h1,h2,h3,h4,h5,h6⟩:=QU hg n
  have s0:=h0.2
  have s1:=h1.2
  exact⟨⟨fun i=>Ye hg h0 i,dM _ _ _⟩,acg h1 h2,ach h2 (Yu hg h1 h6),Tq ⟨fun i=>aci hg h0 h1 i,aA⟩ h1 h6,aem h1 h3 h4,⟨fun i=>Ll hg h5 i,dM _ _ _⟩,Yx hg h0 h1 h3 h5 h4⟩
end
end Go.Proofs.YtdplogkmkgekdaaGreatDoor.Bk
