/- Parse of print: what is read is printed so that it is read back. -/
import Derived.Test.YtdplogkmkgekdaaGreatDoorBki
set_option linter.all false
set_option maxRecDepth 100000
set_option maxHeartbeats 4000000
namespace Go.Proofs.YtdplogkmkgekdaaGreatDoor.Bk
theorem abS {F:List (List Nr)} (h:∀x∈F,PX x):∃Ks Us,tY mE xI LE [1,2] dB F Ks Us:=nJ (fun x hx=>by
 obtain⟨K,us,os,b⟩:=h x hx
 exact⟨K,us,b.pt,b.gl,b.ok,b.hd,b.rd,b.lb⟩)
theorem xI.of {t:Tk} {j:Nat} {u:Wd} (h:dI t j u) (e:S1.contains u=true):xI t j:=⟨u,h,.inl e⟩
theorem Vn {t:Tk} {F:List (List Nr)} {Ks:List Kd} {Us:List (List Wd)} (l:tY mE xI LE [1,2] dB F Ks Us) {i:Nat} (hat:At t i (aS [44] Us++[[41]])):∃F',F'.map er=F.map er∧Ev (fun n=>fC t (gG t n 1) ⟨#[41]⟩ n) ⟨i,0,0⟩ (F',⟨i+(aS [44] Us).length+1,0,0⟩):=
 Fp (m:=mE) (e:=[41]) ⟨rfl,rfl,rfl⟩ (fun j h=>xI.of h rfl) (fun j h=>xI.of h rfl) (fun j h=>bQ h rfl) l hat
theorem PX.FC {k p n m:Int} {s:ByteArray} {F:List (List Nr)} {Ks:List Kd} {us:List Wd} (hz:Zip Pt F Ks) (hg:Gr k n m s (F.map bA)) (hk:nS k=true) (gl:glue us=glue (asm k n m s.data.toList Ks)) (ok:∀u∈us,okW u=true) (hd:∃u r,us=u::r∧(LO.contains u||[1,2].contains (wk u))=true) (lb:dB (lab k n m s F.length)) (rd:qC JZ (fun t j=>au t j 0 0 ⟨#[58,58]⟩=false) (nd k p n m s F) us):PX (nd k p n m s F):=
 PX.simple (Pt.nd hz hg) lb hk gl ok hd (J2 rd)
theorem abT {p:Int} {v:Nat} (hv:v≤9223372036854775807):PX (nd 20 p v 0 E0 []):=by
 have hg:Gr 20 (v:Int) 0 E0 (([]:List (List Nr)).map bA):=by constructor<;>intro e<;>first|exact absurd e (by decide)|omega
 have hu:=yK hv
 refine PX.FC (us:=[Lib.decDigits v]) (Ks:=[]) trivial hg rfl ?_ (aV hu.ok iZ) ⟨_,_,rfl,by rw[hu.wk];exact Bool.or_true _⟩ (by unfold dB lab;simp) ?_
 ·show _=glue [Lib.itoa v]
  rw[zO]
 ·rintro t i ⟨a1,-⟩ hf
  have n1:=zN a1 hu
  refine⟨nd 20 (t.pos i) v 0 E0 [],bD rfl,tZ ?_⟩
  have k2:Ev (fun _=>qh t) ⟨i,0,0⟩ ((v:Int),⟨i,0,0⟩):=by rw[←n1];exact xX
  have k3:Ev (fun _=>H9 t) ⟨i,0,0⟩ (1,⟨i,0,0⟩):=by have:=JF a1;rw[hu.wk] at this;exact this
  unfold aX
  exact evs
theorem ML {p n:Int} (hn:n=0∨n=1):PX (nd 21 p n 0 E0 []):=by
 have hg:Gr 21 n 0 E0 (([]:List (List Nr)).map bA):=by constructor<;>intro e<;>first|exact absurd e (by decide)|exact hn
 rcases hn with rfl|rfl
 ·refine PX.FC (us:=[[102,97,108,115,101]]) (Ks:=[]) trivial hg rfl rfl (by decide) ⟨_,_,rfl,rfl⟩ (by unfold dB lab;simp) ?_
  rintro t i ⟨a1,-⟩ hf
  exact⟨nd 21 (t.pos i) 0 0 E0 [],rfl,tZ (by unfold aX bO;exact evs)⟩
 ·refine PX.FC (us:=[[116,114,117,101]]) (Ks:=[]) trivial hg rfl rfl (by decide) ⟨_,_,rfl,rfl⟩ (by unfold dB lab;simp) ?_
  rintro t i ⟨a1,-⟩ hf
  exact⟨nd 21 (t.pos i) 1 0 E0 [],rfl,tZ (by unfold aX bO;exact evs)⟩
theorem abU {p:Int} {F:List (List Nr)} (h:∀x∈F,PX x):PX (jv 22 p F):=by
 by_cases h1:F.length=1
 ·obtain⟨y,rfl⟩:∃y,F=[y]:=List.length_eq_one_iff.1 h1
  exact h y (List.mem_cons_self ..)
 ·rw[oh h1]
  obtain⟨Ks,Us,l⟩:=abS h
  refine PX.FC (us:=[40]::(aS [44] Us++[[41]])) (Ks:=Ks) l.pt (by constructor<;>intro e<;>first|exact absurd e (by decide)|exact l.lb) rfl ?_ (aV rfl (bE (kF rfl l.ok) (by decide))) ⟨_,_,rfl,rfl⟩ (by unfold dB lab;simp) ?_
  ·show glue _=glue (bF [40] [41] Ks)
   unfold bF
   rw[aQ,aQ,aN,aN,iO l.gl]
  ·rintro t i ⟨a1,a2⟩ hf
   obtain⟨F',h2,h3⟩:=Vn l a2
   have hl:F'.length≠1:=by have:=congrArg List.length h2;simp at this;omega
   refine⟨nd 22 (t.pos i) 0 0 E0 F',bD h2,tZ (Ev.to (j:=i+1+(aS [44] Us).length+1) ?_ (by simp only[List.length_cons,List.length_append,List.length_nil];omega))⟩
   have h4:Ev (fun _=>ret (jv 22 (t.pos i) F')) ⟨i+1+(aS [44] Us).length+1,0,0⟩ (nd 22 (t.pos i) 0 0 E0 F',⟨i+1+(aS [44] Us).length+1,0,0⟩):=by
    rw[oh hl];exact Ev.ret'
   unfold aX;exact evs
theorem ED {t:Tk} {F:List (List Nr)} {Ks:List Kd} {Us:List (List Wd)} (l:tY mT vP LT [2] nN F Ks Us) {i:Nat} {ws:List Wd} (hws:ws=if F=[] then [] else [58,58]::[60]::(aS [44] Us++[[62]])) (hat:At t i ws) (h0:au t (i+ws.length) 0 0 ⟨#[58,58]⟩=false):∃F',F'.map er=F.map er∧Ev (fun n=>ig t (gG t n 0) n) ⟨i,0,0⟩ (F',⟨i+ws.length,0,0⟩):=by
 by_cases hF:F=[]
 ·rw[if_pos hF] at hws
  subst hws hF
  have h0':au t i 0 0 ⟨#[58,58]⟩=false:=h0
  exact⟨[],rfl,by unfold ig;exact evs⟩
 ·rw[if_neg hF] at hws
  subst hws
  obtain⟨a1,a2,a3⟩:=hat
  obtain⟨F2,h3,h4⟩:=wP.run (m:=mT) (s:=[44]) (e:=[62]) (B:=fun n=>gH t (gG t n 0) ⟨[62].toArray⟩) Fj ⟨rfl,rfl,rfl⟩ (fun j h=>vP.of h rfl) (fun j h=>vP.of h rfl) hF l.rd _ [] a3
  refine⟨F2,h3,?_⟩
  have h5:Ev (fun fu=>qj t (gG t fu 0) ⟨#[62]⟩ fu []) ⟨i+2,0,0⟩ (F2,⟨i+([58,58]::[60]::(aS [44] Us++[[62]])).length,0,0⟩):=by
   have:=h4.ev
   refine Ev.to this ?_
   simp only[List.length_cons,List.length_append,List.length_nil];omega
  have b1:(au t i 0 0 ⟨#[58,58]⟩&&au t i 0 1 ⟨#[60]⟩)=true:=dR (fD a1 rfl) (fD a2 rfl)
  unfold ig;exact evs
theorem J3 {F:List (List Nr)} {Ks:List Kd} {Us:List (List Wd)} (l:tY mT vP LT [2] nN F Ks Us) {ws:List Wd} (hws:ws=if F=[] then [] else [58,58]::[60]::(aS [44] Us++[[62]])):glue ws=glue (qm Ks)∧∀u∈ws,okW u=true:=by
 by_cases hF:F=[]
 ·rw[if_pos hF] at hws
  have:Ks=[]:=by
   have:=l.pt.len
   rw[hF] at this
   exact List.length_eq_zero_iff.1 this.symm
  subst hws this
  exact⟨rfl,iZ⟩
 ·rw[if_neg hF] at hws
  subst hws
  refine⟨?_,aV rfl (aV rfl (bE (kF rfl l.ok) (by decide)))⟩
  unfold qm
  rw[FB (l.pt.ne hF)]
  have:(Ks.length !=0)=true:=by
   have:=l.pt.ne hF
   cases Ks with
   |nil=>exact absurd rfl this
   |cons _ _=>simp
  rw[this]
  unfold bF
  simp only[aQ,aN,iO l.gl,aC,if_true,List.cons_append,List.nil_append]
theorem tyl {F:List Int} (h:∀x∈F,nN x):∀x∈F,dB x:=fun x hx=>(h x hx).no
theorem Yg {p:Int} {s n:ByteArray} {r:List ByteArray} {F:List (List Nr)} (hp:qD 3 s n r) (hF:∀x∈F,PT x):PX (nd 23 p 0 0 s F):=by
 obtain⟨Ks,Us,l⟩:=Fw hF
 obtain⟨ws,hws⟩:∃ws:List Wd,ws=if F=[] then [] else [58,58]::[60]::(aS [44] Us++[[62]]):=⟨_,rfl⟩
 obtain⟨g1,g2⟩:=J3 l hws
 refine PX.FC (us:=pw n r++ws) (Ks:=Ks) l.pt (by constructor<;>intro e<;>first|exact absurd e (by decide)|exact⟨hp.path,tyl l.lb⟩) rfl ?_ (bE hp.ok g2) ⟨_,_,rfl,by rw[hp.nm.1];exact Bool.or_true _⟩ (by unfold dB lab;simp) ?_
 ·show glue _=glue (jQ s.data.toList::qm Ks)
  rw[←hp.glue,aN,aN,g1]
 ·intro t i hat hf
  obtain⟨a1,a2⟩:=hat.app
  have e0:i+(pw n r++ws).length=i+(pw n r).length+ws.length:=by rw[List.length_append];omega
  rw[e0] at hf⊢
  obtain⟨F',h1,h2⟩:=ED l hws a2 hf
  have k1:Ev (fun fu=>iq t fu 3) ⟨i,0,0⟩ (s,⟨i+(pw n r).length,0,0⟩):=by
   by_cases h0:F=[]
   ·rw[if_pos h0] at hws
    subst hws
    exact qY hp a1 hf
   ·rw[if_neg h0] at hws
    subst hws
    obtain⟨b1,b2,-⟩:=a2
    have hl:=GK hp a1 (Fg b2 rfl)
    exact hl
  have k3:Ev (fun _=>H9 t) ⟨i,0,0⟩ (2,⟨i,0,0⟩):=by have:=JF a1.1;rw[hp.nm.1] at this;exact this
  refine⟨nd 23 (t.pos i) 0 0 s F',bD h1,tZ ?_⟩
  unfold aX
  exact evs
theorem Cy.more {x y:List Nr} {os ws:List Wd} (h:Cy x os) (hw:∃u r,ws=u::r∧lT u ⟨#[58,58]⟩=false) (hk:∀(t:Tk) (j:Nat) (x':List Nr),er x'=er x→At t j ws→au t (j+ws.length) 0 0 ⟨#[58,58]⟩=false→∃y',er y'=er y∧Ev (fun n=>eB t (gG t n 1) n x') ⟨j,0,0⟩ ((true,y'),⟨j+ws.length,0,0⟩)):Cy y (os++ws):=by
 intro t i hat h0
 obtain⟨a1,a2⟩:=hat.app
 have e0:i+(os++ws).length=i+os.length+ws.length:=by rw[List.length_append];omega
 rw[e0] at h0⊢
 obtain⟨u,r,rfl,hu⟩:=hw
 obtain⟨x',e1,h1⟩:=h t i a1 (gY a2.1 hu)
 obtain⟨y',e2,h2⟩:=hk t _ x' e1 a2 h0
 exact⟨y',e2,fun r hr=>h1 r (EvL.on h2 hr)⟩
theorem Yh {p:Int} {x:List Nr} {F:List (List Nr)} (hx:PX x) (h:∀y∈F,PX y):PX (nd 24 p 0 0 E0 (x::F)):=by
 obtain⟨K,us,os,b⟩:=hx
 obtain⟨Ks,Us,l⟩:=abS h
 have hg:Gr 24 0 0 E0 ((x::F).map bA):=by
  constructor<;>intro e<;>first|exact absurd e (by decide)|exact⟨by simp,by
   intro z hz
   rcases List.mem_cons.1 hz with rfl|hz
   ·exact b.lb
   ·exact l.lb z hz⟩
 refine PX.simple (K:=⟨24,(x::F).length,asm 24 0 0 [] (K::Ks)⟩) (us:=os++([40]::(aS [44] Us++[[41]]))) (Pt.nd (Ks:=K::Ks) ⟨b.pt,l.pt⟩ hg) (by rw[dA];unfold dB lab;simp) rfl ?_ (bE b.EB (aV rfl (bE (kF rfl l.ok) (by decide)))) ?_ ?_
 ·show glue _=glue (gQ K++bF [40] [41] Ks)
  unfold bF
  simp only[aQ,aN,iO l.gl,b.yM]
 ·obtain⟨u,r,rfl,h2⟩:=b.Ba
  exact⟨u,_,rfl,h2⟩
 ·refine b.EC.more ⟨_,_,rfl,rfl⟩ ?_
  rintro t j x' ex ⟨a1,a2⟩ h0
  obtain⟨F',h2,h3⟩:=Vn l a2
  refine⟨nd 24 (t.pos j) 0 0 E0 (x'::F'),bD (by simp[ex,h2]),?_⟩
  unfold eB
  exact evs
theorem J4 {p n:Int} {s:ByteArray} {x:List Nr} (hx:PX x) (hs:(n=0∧nI s)∨(s=E0∧∃v:Nat,n=v∧v≤9223372036854775807)):PX (nd 25 p n 0 s [x]):=by
 obtain⟨K,us,os,b⟩:=hx
 have hg:Gr 25 n 0 s ([x].map bA):=by
  constructor<;>intro e<;>first|exact absurd e (by decide)|exact⟨by rcases hs with⟨rfl,-⟩|⟨-,v,rfl,hv⟩<;>omega,_,rfl,b.lb⟩
 obtain⟨w,hw,hok⟩:∃w:Wd,w=(if s.data.toList.length=0 then Lib.itoa n else s.data.toList)∧okW w=true:=by
  refine⟨_,rfl,?_⟩
  rcases hs with⟨-,hs⟩|⟨rfl,v,rfl,hv⟩
  ·rw[if_neg (fun e=>hs.ne.1 (List.length_eq_zero_iff.1 e))]
   exact hs.2
  ·rw[if_pos (show E0.data.toList.length=0 from rfl),zO]
   exact(yK hv).ok
 refine PX.simple (K:=⟨25,[x].length,asm 25 n 0 s.data.toList [K]⟩) (us:=os++[[46],w]) (Pt.nd (Ks:=[K]) ⟨b.pt,trivial⟩ hg) (by rw[dA];unfold dB lab;simp) rfl ?_ (bE b.EB (aV rfl (aV hok iZ))) ?_ ?_
 ·show glue _=glue (gQ K++[[46],if s.data.toList.length=0 then Lib.itoa n else s.data.toList])
  rw[←hw]
  simp only[aN,b.yM]
 ·obtain⟨u,r,rfl,h2⟩:=b.Ba
  exact⟨u,_,rfl,h2⟩
 ·refine b.EC.more ⟨_,_,rfl,rfl⟩ ?_
  rintro t j x' ex ⟨a1,a2,-⟩ h0
  refine⟨nd 25 (t.pos j) n 0 s [x'],bD (by simp[ex]),?_⟩
  rcases hs with⟨rfl,hs⟩|⟨rfl,v,rfl,hv⟩
  ·rw[if_neg (fun e=>hs.ne.1 (List.length_eq_zero_iff.1 e))] at hw
   subst hw
   have c0:cu t (j+1) [] [2]:=⟨_,a2,.inr (by rw[hs.1];rfl)⟩
   unfold eB
   exact evs
  ·rw[if_pos (show E0.data.toList.length=0 from rfl),zO] at hw
   subst hw
   have hu:=yK hv
   have k1:=Dv a2 hu
   have n1:=zN a2 hu
   have k2:Ev (fun _=>qh t) ⟨j+1,0,0⟩ ((v:Int),⟨j+1,0,0⟩):=by rw[←n1];exact xX
   unfold eB
   exact evs
theorem PX.pre {k p n:Int} {s:ByteArray} {x:List Nr} {K:Kd} {us os ws:List Wd} (b:BX x K us os) (hg:Gr k n 0 s ([x].map bA)) (hk:nS k=false) (lb:dB (lab k n 0 s 1)) (hgl:glue (ws++os)=glue (asm k n 0 s.data.toList [K])) (hok:∀u∈ws,okW u=true) (hw:∃u r,ws=u::r∧LE.contains u=true∧five.contains u=false) (hrd:∀(t:Tk) (i:Nat) (y:List Nr) (j:Nat),At t i ws→cu t (i+ws.length) LO [1,2]→Ev (fun n=>gG t n 2) ⟨i+ws.length,0,0⟩ (y,⟨j,0,0⟩)→Ev (fun n=>eG t (gG t n 2) (fK t (gG t n 1) (gG t n 6) n)) ⟨i,0,0⟩ (nd k (t.pos i) n 0 s [y],⟨j,0,0⟩)):PX (nd k p n 0 s [x]):=by
 obtain⟨u,r,rfl,hw1,hw2⟩:=hw
 refine PX.other (Pt.nd (Ks:=[K]) ⟨b.pt,trivial⟩ hg) lb hk hgl (bE hok b.EB) ⟨u,_,rfl,by rw[hw1];rfl⟩ ?_ ?_
 ·intro t i hat hf
  obtain⟨a1,a2⟩:=hat.app
  have e0:i+((u::r)++os).length=i+(u::r).length+os.length:=by rw[List.length_append];omega
  rw[e0] at hf⊢
  have hd:=a2.head b.Ba
  have hf2:cu t _ S1 []:=hf
  obtain⟨x',e1,h1⟩:=b.EC.u a2 hd (bQ hf2 rfl) (bQ hf2 rfl) (bQ hf2 rfl)
  exact⟨nd k (t.pos i) n 0 s [x'],bD (by simp[e1]),EA (gU (hrd t i x' _ a1 hd h1)) (s12 hf)⟩
 ·rintro v q e h5
  obtain⟨rfl,-⟩:=List.cons.inj e
  rw[hw2] at h5
  cases h5
theorem abV {p:Int} {w:ByteArray} {x:List Nr} (hw:w=⟨#[45]⟩∨w=⟨#[33]⟩) (hx:PX x):PX (nd 28 p 0 0 w [x]):=by
 obtain⟨K,us,os,b⟩:=hx
 have hg:Gr 28 0 0 w ([x].map bA):=by
  constructor<;>intro e<;>first|exact absurd e (by decide)|exact⟨_,rfl,b.lb⟩
 rcases hw with rfl|rfl
 ·refine PX.pre (ws:=[[45]]) b hg rfl (by unfold dB lab;simp) ?_ (by decide) ⟨_,_,rfl,rfl,rfl⟩ ?_
  ·show glue _=glue ([45]::gQ (kd [K] 0))
   show glue _=glue ([45]::gQ K)
   simp only[aQ,aN,b.yM,List.cons_append,List.nil_append]
  ·rintro t i y j ⟨a1,-⟩ hc h1
   have k1:=wT (ss:=Dw) (w:=⟨#[45]⟩) a1 rfl
   have h1':Ev (fun n=>gG t n 2) ⟨i+1,0,0⟩ (y,⟨j,0,0⟩):=h1
   unfold eG
   exact evs
 ·refine PX.pre (ws:=[[33]]) b hg rfl (by unfold dB lab;simp) ?_ (by decide) ⟨_,_,rfl,rfl,rfl⟩ ?_
  ·show glue _=glue ([33]::gQ K)
   simp only[aQ,aN,b.yM,List.cons_append,List.nil_append]
  ·rintro t i y j ⟨a1,-⟩ hc h1
   have k1:=wT (ss:=Dw) (w:=⟨#[33]⟩) a1 rfl
   have h1':Ev (fun n=>gG t n 2) ⟨i+1,0,0⟩ (y,⟨j,0,0⟩):=h1
   unfold eG
   exact evs
theorem Tc {p:Int} {x:List Nr} (hx:PX x):PX (nd 26 p 0 0 E0 [x]):=by
 obtain⟨K,us,os,b⟩:=hx
 have hg:Gr 26 0 0 E0 ([x].map bA):=by
  constructor<;>intro e<;>first|exact absurd e (by decide)|exact⟨_,rfl,b.lb⟩
 refine PX.pre (ws:=[[42]]) b hg rfl (by unfold dB lab;simp) ?_ (by decide) ⟨_,_,rfl,rfl,rfl⟩ ?_
 ·show glue _=glue ([42]::gQ K)
  simp only[aQ,aN,b.yM,List.cons_append,List.nil_append]
 ·rintro t i y j ⟨a1,-⟩ hc h1
  have k1:=wT (ss:=Dw) (w:=⟨#[42]⟩) a1 rfl
  have h1':Ev (fun n=>gG t n 2) ⟨i+1,0,0⟩ (y,⟨j,0,0⟩):=h1
  unfold eG
  exact evs
theorem J5 {p n:Int} {x:List Nr} (hn:n=0∨n=1) (hx:PX x):PX (nd 27 p n 0 E0 [x]):=by
 obtain⟨K,us,os,b⟩:=hx
 have hg:Gr 27 n 0 E0 ([x].map bA):=by
  constructor<;>intro e<;>first|exact absurd e (by decide)|exact⟨hn,_,rfl,b.lb⟩
 rcases hn with rfl|rfl
 ·refine PX.pre (ws:=[[38]]) b hg rfl (by unfold dB lab;simp) ?_ (by decide) ⟨_,_,rfl,rfl,rfl⟩ ?_
  ·show glue _=glue ([38]::gQ K)
   simp only[aQ,aN,b.yM,List.cons_append,List.nil_append]
  ·rintro t i y j ⟨a1,-⟩ hc h1
   have hc':cu t (i+1) LO [1,2]:=hc
   have k1:=wT (ss:=Dw) (w:=⟨#[38]⟩) a1 rfl
   have h1':Ev (fun n=>gG t n 2) ⟨i+1,0,0⟩ (y,⟨j,0,0⟩):=h1
   unfold eG
   exact evs
 ·refine PX.pre (ws:=[[38],[109,117,116]]) b hg rfl (by unfold dB lab;simp) ?_ (by decide) ⟨_,_,rfl,rfl,rfl⟩ ?_
  ·show glue _=glue ([38]::[109,117,116]::gQ K)
   simp only[aQ,aN,b.yM,List.cons_append,List.nil_append]
  ·rintro t i y j ⟨a1,a2,-⟩ hc h1
   have k1:=wT (ss:=Dw) (w:=⟨#[38]⟩) a1 rfl
   have h1':Ev (fun n=>gG t n 2) ⟨i+1+1,0,0⟩ (y,⟨j,0,0⟩):=h1
   unfold eG
   exact evs
theorem PX.two {k p:Int} {s:ByteArray} {x y:List Nr} {sg:Wd} (hx:PX x) (hy:PX y) (hk:29≤k∧k≤32) (afp:∀K1 K2,asm k 0 0 s.data.toList [K1,K2]=gQ K1++(sg::gQ K2)) (hok:okW sg=true) (hc:lT sg ⟨#[58,58]⟩=false∧lT sg ⟨#[40]⟩=false∧lT sg ⟨#[46]⟩=false) (hrd:∀(t:Tk) (i j k':Nat) (x' y':List Nr),Ev (fun n=>gG t n 2) ⟨i,0,0⟩ (x',⟨j,0,0⟩)→dI t j sg→Ev (fun n=>gG t n 2) ⟨j+1,0,0⟩ (y',⟨k',0,0⟩)→cu t k' S1 []→Ev (fun n=>jN t (gG t n 1) (gG t n 2) n) ⟨i,0,0⟩ (nd k (t.pos j) 0 0 s [x',y'],⟨k',0,0⟩)):PX (nd k p 0 0 s [x,y]):=by
 obtain⟨K1,us1,os1,b1⟩:=hx
 obtain⟨K2,us2,os2,b2⟩:=hy
 have hg:Gr k 0 0 s ([x,y].map bA):=by
  constructor<;>intro e<;>first|exact absurd e (by omega)|exact⟨_,_,rfl,b1.lb,b2.lb⟩
 refine PX.other (K:=⟨k,[x,y].length,asm k 0 0 s.data.toList [K1,K2]⟩) (us:=os1++(sg::os2)) (Pt.nd (Ks:=[K1,K2]) ⟨b1.pt,b2.pt,trivial⟩ hg) ?_ ?_ ?_ (bE b1.EB (aV hok b2.EB)) ?_ ?_ ?_
 ·rw[dA]
  have:lab k 0 0 s 2=k:=by
   unfold lab
   rw[if_neg (by omega),if_neg (by omega),if_neg (by omega),if_neg (by omega),if_neg (by omega)]
  show dB (lab k 0 0 s 2)
  rw[this]
  unfold dB
  omega
 ·show nS k=false
  unfold nS
  simp
  omega
 ·show glue _=glue (asm _ _ _ _ _)
  rw[afp]
  simp only[aQ,aN,b1.yM,b2.yM]
 ·obtain⟨u,r,e,h2⟩:=lo_le b1.Ba
  subst e
  exact⟨u,_,rfl,h2⟩
 ·intro t i hat hf
  obtain⟨a1,a2,a3⟩:=hat.app
  have e0:i+(os1++(sg::os2)).length=i+os1.length+1+os2.length:=by simp only[List.length_append,List.length_cons];omega
  rw[e0] at hf⊢
  have hf2:cu t _ S1 []:=hf
  obtain⟨x',e1,h1⟩:=b1.EC.u a1 (a1.head b1.Ba) (gY a2 hc.1) (gY a2 hc.2.1) (gY a2 hc.2.2)
  obtain⟨y',e2,h2⟩:=b2.EC.u a3 (a3.head b2.Ba) (bQ hf2 rfl) (bQ hf2 rfl) (bQ hf2 rfl)
  exact⟨nd k (t.pos (i+os1.length)) 0 0 s [x',y'],bD (by simp[e1,e2]),gE (hrd t i _ _ x' y' h1 a2 h2 hf2)⟩
 ·rintro v q e h5
  exfalso
  obtain⟨u,r,rfl,h2⟩:=b1.Ba
  obtain⟨rfl,-⟩:=List.cons.inj e
  simp only[List.contains_iff_mem,List.mem_cons,List.not_mem_nil,or_false] at h5
  rcases h5 with rfl|rfl|rfl|rfl|rfl<;>exact absurd h2 (by decide)
section
variable {t:Tk} {i j k:Nat} {x y:List Nr} {sg:Wd} {w:ByteArray}
theorem J6 (h1:Ev (fun n=>gG t n 2) ⟨i,0,0⟩ (x,⟨j,0,0⟩)) (hs:dI t j sg) (h2:Ev (fun n=>gG t n 2) ⟨j+1,0,0⟩ (y,⟨k,0,0⟩)) (hc:cu t k S1 []) (e:JX.find? (fun w=>lT sg w)=some w) (e2:(w.size==0)=false):Ev (fun n=>jN t (gG t n 1) (gG t n 2) n) ⟨i,0,0⟩ (nd 29 (t.pos j) 0 0 w [x,y],⟨k,0,0⟩):=
 yL (BO (wU (cmp0 (JY (X:=fun n=>vH t (gG t n 2) n) (abQ h1 hs e e2 h2 (jI hc rfl)) (jI hc rfl)) (jI hc rfl)) (bQ hc rfl)) (bQ hc rfl)) (bQ hc rfl)
theorem QK (h1:Ev (fun n=>gG t n 2) ⟨i,0,0⟩ (x,⟨j,0,0⟩)) (hs:dI t j sg) (h2:Ev (fun n=>gG t n 2) ⟨j+1,0,0⟩ (y,⟨k,0,0⟩)) (hc:cu t k S1 []) (e:Oc.find? (fun w=>lT sg w)=some w) (e2:(w.size==0)=false) (e3:JX.all (fun w=>!lT sg w)=true):Ev (fun n=>jN t (gG t n 1) (gG t n 2) n) ⟨i,0,0⟩ (nd 29 (t.pos j) 0 0 w [x,y],⟨k,0,0⟩):=
 yL (BO (wU (cmp0 (abQ (X:=fun n=>vH t (gG t n 2) n) (JY h1 (kV hs e3)) hs e e2 (JY h2 (jI hc rfl)) (jI hc rfl)) (jI hc rfl)) (bQ hc rfl)) (bQ hc rfl)) (bQ hc rfl)
theorem yN (h1:Ev (fun n=>gG t n 2) ⟨i,0,0⟩ (x,⟨j,0,0⟩)) (hs:dI t j sg) (h2:Ev (fun n=>gG t n 2) ⟨j+1,0,0⟩ (y,⟨k,0,0⟩)) (hc:cu t k S1 []) (e:Od.find? (fun w=>lT sg w)=some w) (e2:(w.size==0)=false) (e3:JX.all (fun w=>!lT sg w)=true) (e4:Oc.all (fun w=>!lT sg w)=true):Ev (fun n=>jN t (gG t n 1) (gG t n 2) n) ⟨i,0,0⟩ (nd 29 (t.pos j) 0 0 w [x,y],⟨k,0,0⟩):=
 yL (BO (wU (afo (up_add h1 (kV hs e3) (kV hs e4)) hs e e2 (up_add h2 (jI hc rfl) (jI hc rfl))) (bQ hc rfl)) (bQ hc rfl)) (bQ hc rfl)
theorem abW (h1:Ev (fun n=>gG t n 2) ⟨i,0,0⟩ (x,⟨j,0,0⟩)) (hs:dI t j [38,38]) (h2:Ev (fun n=>gG t n 2) ⟨j+1,0,0⟩ (y,⟨k,0,0⟩)) (hc:cu t k S1 []):Ev (fun n=>jN t (gG t n 1) (gG t n 2) n) ⟨i,0,0⟩ (nd 30 (t.pos j) 0 0 E0 [x,y],⟨k,0,0⟩):=
 yL (BO (ch1 (X:=fun n=>pJ t (gG t n 2) n) (cmp0 (up_add h1 (kV hs rfl) (kV hs rfl)) (kV hs rfl)) (fD hs rfl) (cmp0 (up_add h2 (jI hc rfl) (jI hc rfl)) (jI hc rfl)) (bQ hc rfl)) (bQ hc rfl)) (bQ hc rfl)
theorem aeh (h1:Ev (fun n=>gG t n 2) ⟨i,0,0⟩ (x,⟨j,0,0⟩)) (hs:dI t j [124,124]) (h2:Ev (fun n=>gG t n 2) ⟨j+1,0,0⟩ (y,⟨k,0,0⟩)) (hc:cu t k S1 []):Ev (fun n=>jN t (gG t n 1) (gG t n 2) n) ⟨i,0,0⟩ (nd 31 (t.pos j) 0 0 E0 [x,y],⟨k,0,0⟩):=
 yL (ch1 (X:=fun n=>qQ t (gG t n 2) n) (wU (cmp0 (up_add h1 (kV hs rfl) (kV hs rfl)) (kV hs rfl)) (gY hs rfl)) (fD hs rfl) (wU (cmp0 (up_add h2 (jI hc rfl) (jI hc rfl)) (jI hc rfl)) (bQ hc rfl)) (bQ hc rfl)) (bQ hc rfl)
theorem abX (h1:Ev (fun n=>gG t n 2) ⟨i,0,0⟩ (x,⟨j,0,0⟩)) (hs:dI t j [61]) (h2:Ev (fun n=>gG t n 2) ⟨j+1,0,0⟩ (y,⟨k,0,0⟩)) (hc:cu t k S1 []):Ev (fun n=>jN t (gG t n 1) (gG t n 2) n) ⟨i,0,0⟩ (nd 32 (t.pos j) 0 0 E0 [x,y],⟨k,0,0⟩):=by
 have k1:Ev (fun n=>tC t (gG t n 2) n) ⟨i,0,0⟩ (x,⟨j,0,0⟩):=BO (wU (cmp0 (up_add h1 (kV hs rfl) (kV hs rfl)) (kV hs rfl)) (gY hs rfl)) (gY hs rfl)
 have k2:Ev (fun n=>gG t n 1) ⟨j+1,0,0⟩ (y,⟨k,0,0⟩):=EA h2 (s12 hc)
 unfold jN
 exact evs
end
theorem two_mul {p:Int} {x y:List Nr} {w:ByteArray} (hw:w∈JX) (hx:PX x) (hy:PX y):PX (nd 29 p 0 0 w [x,y]):=by
 simp only[List.mem_cons,List.not_mem_nil,or_false] at hw
 rcases hw with rfl|rfl|rfl
 ·exact PX.two (sg:=[42]) hx hy (by decide) (fun _ _=>rfl) rfl ⟨rfl,rfl,rfl⟩ (fun t i j k x y h1 h2 h3 h4=>J6 h1 h2 h3 h4 rfl rfl)
 ·exact PX.two (sg:=[47]) hx hy (by decide) (fun _ _=>rfl) rfl ⟨rfl,rfl,rfl⟩ (fun t i j k x y h1 h2 h3 h4=>J6 h1 h2 h3 h4 rfl rfl)
 ·exact PX.two (sg:=[37]) hx hy (by decide) (fun _ _=>rfl) rfl ⟨rfl,rfl,rfl⟩ (fun t i j k x y h1 h2 h3 h4=>J6 h1 h2 h3 h4 rfl rfl)
theorem Yi {p:Int} {x y:List Nr} {w:ByteArray} (hw:w∈Oc) (hx:PX x) (hy:PX y):PX (nd 29 p 0 0 w [x,y]):=by
 simp only[List.mem_cons,List.not_mem_nil,or_false] at hw
 rcases hw with rfl|rfl
 ·exact PX.two (sg:=[43]) hx hy (by decide) (fun _ _=>rfl) rfl ⟨rfl,rfl,rfl⟩ (fun t i j k x y h1 h2 h3 h4=>QK h1 h2 h3 h4 rfl rfl rfl)
 ·exact PX.two (sg:=[45]) hx hy (by decide) (fun _ _=>rfl) rfl ⟨rfl,rfl,rfl⟩ (fun t i j k x y h1 h2 h3 h4=>QK h1 h2 h3 h4 rfl rfl rfl)
theorem Yj {p:Int} {x y:List Nr} {w:ByteArray} (hw:w∈Od) (hx:PX x) (hy:PX y):PX (nd 29 p 0 0 w [x,y]):=by
 simp only[List.mem_cons,List.not_mem_nil,or_false] at hw
 rcases hw with rfl|rfl|rfl|rfl|rfl|rfl
 ·exact PX.two (sg:=[61,61]) hx hy (by decide) (fun _ _=>rfl) rfl ⟨rfl,rfl,rfl⟩ (fun t i j k x y h1 h2 h3 h4=>yN h1 h2 h3 h4 rfl rfl rfl rfl)
 ·exact PX.two (sg:=[33,61]) hx hy (by decide) (fun _ _=>rfl) rfl ⟨rfl,rfl,rfl⟩ (fun t i j k x y h1 h2 h3 h4=>yN h1 h2 h3 h4 rfl rfl rfl rfl)
 ·exact PX.two (sg:=[60,61]) hx hy (by decide) (fun _ _=>rfl) rfl ⟨rfl,rfl,rfl⟩ (fun t i j k x y h1 h2 h3 h4=>yN h1 h2 h3 h4 rfl rfl rfl rfl)
 ·exact PX.two (sg:=[62,61]) hx hy (by decide) (fun _ _=>rfl) rfl ⟨rfl,rfl,rfl⟩ (fun t i j k x y h1 h2 h3 h4=>yN h1 h2 h3 h4 rfl rfl rfl rfl)
 ·exact PX.two (sg:=[60]) hx hy (by decide) (fun _ _=>rfl) rfl ⟨rfl,rfl,rfl⟩ (fun t i j k x y h1 h2 h3 h4=>yN h1 h2 h3 h4 rfl rfl rfl rfl)
 ·exact PX.two (sg:=[62]) hx hy (by decide) (fun _ _=>rfl) rfl ⟨rfl,rfl,rfl⟩ (fun t i j k x y h1 h2 h3 h4=>yN h1 h2 h3 h4 rfl rfl rfl rfl)
theorem Yk {p:Int} {x y:List Nr} (hx:PX x) (hy:PX y):PX (nd 30 p 0 0 E0 [x,y]):=
 PX.two (sg:=[38,38]) hx hy (by decide) (fun _ _=>rfl) rfl ⟨rfl,rfl,rfl⟩ (fun t i j k x y h1 h2 h3 h4=>abW h1 h2 h3 h4)
theorem abY {p:Int} {x y:List Nr} (hx:PX x) (hy:PX y):PX (nd 31 p 0 0 E0 [x,y]):=
 PX.two (sg:=[124,124]) hx hy (by decide) (fun _ _=>rfl) rfl ⟨rfl,rfl,rfl⟩ (fun t i j k x y h1 h2 h3 h4=>aeh h1 h2 h3 h4)
theorem Yl {p:Int} {x y:List Nr} (hx:PX x) (hy:PX y):PX (nd 32 p 0 0 E0 [x,y]):=
 PX.two (sg:=[61]) hx hy (by decide) (fun _ _=>rfl) rfl ⟨rfl,rfl,rfl⟩ (fun t i j k x y h1 h2 h3 h4=>abX h1 h2 h3 h4)
end Go.Proofs.YtdplogkmkgekdaaGreatDoor.Bk
