/- Parse of print: what is read is printed so that it is read back. -/
import Derived.Test.YtdplogkmkgekdaaGreatDoorBkp
set_option linter.all false
set_option maxRecDepth 100000
set_option maxHeartbeats 4000000
namespace Go.Proofs.YtdplogkmkgekdaaGreatDoor.Bk
theorem Vv {α:Type} {m:GP α} {R:α→Nat→Prop} {i:Nat} (h:wp m R i) (hs:Sy m):wp m (fun x j=>R x j∧i≤j) i:=fun a r h1 h2=>⟨h a r h1 h2,(hs _ _ h1).1⟩
def yQ (t:Tk) (lives:Bool) (n:Nat):GP (List Nr):=bnd (fB t 0 4) (fun b2=>cond (lives||b2) (iR t) (kI t n))
def Vw (t:Tk) (j:Nat):Prop:=cu t j [[44],[62]] []
def Vx (t:Tk) (j:Nat):Prop:=cu t j [[44],[62],[43]] []
def lbB (lives:Bool) (x:Int):Prop:=x=19∨(lives=false∧x=18)
def GR (lives:Bool) (x:List Nr):Prop:=∃K us,Bk (fun t n=>yQ t lives n) Vx [] [2,4] (lbB lives) x K us
theorem Tv {lives:Bool} {p:Int} {s:ByteArray} (hs:qp s):GR lives (nd 19 p 0 0 s []):=by
 refine⟨_,[s.data.toList],Pt.nd (Ks:=[]) trivial (Gr.free (.inr (.inr (.inl rfl)))),rfl,aV hs.2 iZ,⟨_,_,rfl,by rw[hs.1];rfl⟩,?_,.inl (by rw[dA];simp[lab])⟩
 rintro t i ⟨a1,-⟩ -
 obtain⟨q,h⟩:=Fu hs a1
 have k1:bf t i 0 0 4=true:=(kE a1).trans (by rw[hs.1];rfl)
 refine⟨nd 19 q 0 0 s [],bD rfl,?_⟩
 show Ev (fun n=>yQ t lives n) _ _
 exact Ev.ak dz (Ev.yes (dZ k1) h)
theorem Tw {p:Int} {s n:ByteArray} {r:List ByteArray} (hp:qD 2 s n r):GR false (nd 18 p 0 0 s []):=by
 have hg:Gr 18 0 0 s (([]:List (List Nr)).map bA):=by
  constructor<;>intro e<;>first|exact absurd e (by decide)|exact⟨hp.path,[],[],rfl,(fun _ h=>by cases h),(fun _ h=>by cases h)⟩
 refine⟨_,pw n r,Pt.nd (Ks:=[]) trivial hg,?_,hp.ok,⟨_,_,rfl,by rw[hp.nm.1];rfl⟩,?_,.inr ⟨rfl,by rw[dA];simp[lab]⟩⟩
 ·show glue _=glue [jQ s.data.toList]
  rw[←hp.glue,List.append_nil]
 ·intro t i hat hf
  have hf':cu t (i+(pw n r).length) [[44],[62],[43]] []:=hf
  have c0:cu t i [] [2]:=⟨_,hat.1,.inr (by rw[hp.nm.1];rfl)⟩
  have k1:=qY hp hat (bQ hf' rfl)
  refine⟨nd 18 (t.pos i) 0 0 s [],bD rfl,?_⟩
  show Ev (fun n=>yQ t false n) _ _
  unfold yQ kI
  exact evs
theorem QX {t:Tk} {lives:Bool}:∀{F:List (List Nr)} {Us:List (List Wd)},F≠[]→Zip (fun x us=>qC (fun t n=>yQ t lives n) Vx x us∧∃u r,us=u::r∧(([]:List Wd).contains u||[2,4].contains (wk u))=true) F Us→∀(i:Nat) (o:List (List Nr)),At t i (aS [43] Us)→Vw t (i+(aS [43] Us).length)→∃F',F'.map er=F.map er∧EvL (fun n=>gK t lives n) o ⟨i,0,0⟩ (o++F',⟨i+(aS [43] Us).length,0,0⟩)
 |[],_,hne,_,_,_,_,_=>absurd rfl hne
 |[x],[u],_,hz,i,o,hat,hf=>by
  have e1:aS [43] [u]=u:=by simp[aS,jP]
  rw[e1] at hat hf⊢
  have hf':cu t (i+u.length) [[44],[62]] []:=hf
  obtain⟨x',h1,h2⟩:=hz.1.1 t i hat (hf'.sub rfl)
  refine⟨[x'],by simp[h1],EvL.stop ?_⟩
  have h2':Ev (fun n=>bnd (fB t 0 4) (fun b2=>cond (lives||b2) (iR t) (kI t n))) ⟨i,0,0⟩ (x',⟨i+u.length,0,0⟩):=h2
  have h3:Ev (fun n=>bnd (yQ t lives n) (fun y=>bnd (aY t ⟨#[43]⟩) (fun b3=>cond b3 (ret (true,o++[y])) (ret (false,o++[y]))))) ⟨i,0,0⟩ ((false,o++[x']),⟨i+u.length,0,0⟩):=Ev.ak h2 evs
  have e:∀n,gK t lives n o=bnd gN (fun b1=>cond b1 (bnd (yQ t lives n) (fun y=>bnd (aY t ⟨#[43]⟩) (fun b3=>cond b3 (ret (true,o++[y])) (ret (false,o++[y]))))) (ret (false,o))):=by
   intro n
   unfold gK yQ
   have hb:∀{α β γ:Type} (x:GP α) (f:α→GP β) (g:β→GP γ),bnd (bnd x f) g=bnd x (fun a=>bnd (f a) g):=fun x f g=>by
    funext s
    unfold bnd
    cases x s<;>rfl
   simp only[hb]
  simp only[e]
  exact Ev.ak bT (Ev.yes rfl h3)
 |x::y::F,u::v::Us,_,hz,i,o,hat,hf=>by
  have e1:aS [43] (u::v::Us)=u++([43]::aS [43] (v::Us)):=by simp[aS,jP]
  rw[e1] at hat hf⊢
  obtain⟨a1,a2,a3⟩:=hat.app
  obtain⟨x',h1,h2⟩:=hz.1.1 t i a1 ⟨_,a2,.inl rfl⟩
  have e2:i+(u++[43]::aS [43] (v::Us)).length=i+u.length+1+(aS [43] (v::Us)).length:=by simp only[List.length_append,List.length_cons];omega
  rw[e2] at hf⊢
  obtain⟨F',h3,h4⟩:=QX (by simp) hz.2 (i+u.length+1) (o++[x']) a3 hf
  refine⟨x'::F',by rw[List.map_cons,List.map_cons,h1,h3],?_⟩
  rw[List.append_assoc] at h4
  refine EvL.on ?_ h4
  have h3:Ev (fun n=>bnd (yQ t lives n) (fun y=>bnd (aY t ⟨#[43]⟩) (fun b3=>cond b3 (ret (true,o++[y])) (ret (false,o++[y]))))) ⟨i,0,0⟩ ((true,o++[x']),⟨i+u.length+1,0,0⟩):=Ev.ak h2 evs
  have e:∀n,gK t lives n o=bnd gN (fun b1=>cond b1 (bnd (yQ t lives n) (fun y=>bnd (aY t ⟨#[43]⟩) (fun b3=>cond b3 (ret (true,o++[y])) (ret (false,o++[y]))))) (ret (false,o))):=by
   intro n
   unfold gK yQ
   have hb:∀{α β γ:Type} (x:GP α) (f:α→GP β) (g:β→GP γ),bnd (bnd x f) g=bnd x (fun a=>bnd (f a) g):=fun x f g=>by
    funext s
    unfold bnd
    cases x s<;>rfl
   simp only[hb]
  simp only[e]
  exact Ev.ak bT (Ev.yes rfl h3)
 |_::_,[],_,hz,_,_,_,_=>hz.elim
 |[_],_::_::_,_,hz,_,_,_,_=>hz.2.elim
 |_::_::_,[_],_,hz,_,_,_,_=>hz.2.elim
theorem GU {t:Tk} {lives bd:Bool} {F:List (List Nr)} {Ks:List Kd} {Us:List (List Wd)} (hbd:bd=false→F=[]) (l:tY (fun t n=>yQ t lives n) Vx [] [2,4] (lbB lives) F Ks Us) {ws:List Wd} (hws:ws=if F=[] then [] else [58]::aS [43] Us) {i:Nat} (hat:At t i ws) (hf:Vw t (i+ws.length)):∃F',F'.map er=F.map er∧Ev (fun n=>cond bd (iM t lives n) (ret [])) ⟨i,0,0⟩ (F',⟨i+ws.length,0,0⟩):=by
 by_cases hF:F=[]
 ·rw[if_pos hF] at hws
  subst hws hF
  have hf':cu t i [[44],[62]] []:=hf
  refine⟨[],rfl,?_⟩
  show Ev (fun n=>cond bd (iM t lives n) (ret [])) ⟨i,0,0⟩ ([],⟨i,0,0⟩)
  cases bd
  ·exact Ev.no rfl Ev.ret'
  ·unfold iM
   exact Ev.yes rfl evs
 ·rw[if_neg hF] at hws
  subst hws
  obtain⟨a1,a2⟩:=hat
  have e0:i+([58]::aS [43] Us).length=i+1+(aS [43] Us).length:=by simp only[List.length_cons];omega
  rw[e0] at hf⊢
  obtain⟨F',h1,h2⟩:=QX hF l.rd (i+1) [] a2 hf
  cases bd
  ·exact absurd (hbd rfl) hF
  ·refine⟨F',h1,Ev.yes rfl ?_⟩
   have h3:Ev (fun n=>loop (gK t lives n) n []) ⟨i+1,0,0⟩ (F',⟨i+1+(aS [43] Us).length,0,0⟩):=h2.ev
   show Ev (fun n=>bnd (aY t ⟨#[58]⟩) (fun b=>cond b (loop (gK t lives n) n []) (ret []))) _ _
   exact evs
theorem Kj {lives:Bool} {F:List (List Nr)} {Ks:List Kd} {Us:List (List Wd)} (l:tY (fun t n=>yQ t lives n) Vx [] [2,4] (lbB lives) F Ks Us) {ws:List Wd} (hws:ws=if F=[] then [] else [58]::aS [43] Us):glue ws=glue (aC (Ks.length !=0) [[58]]++pSep [43] Ks)∧∀u∈ws,okW u=true:=by
 by_cases hF:F=[]
 ·rw[if_pos hF] at hws
  have:Ks=[]:=by
   have:=l.pt.len
   rw[hF] at this
   exact List.length_eq_zero_iff.1 this.symm
  subst hws this
  exact⟨rfl,iZ⟩
 ·rw[if_neg hF] at hws
  subst hws
  have:(Ks.length !=0)=true:=by
   have:=l.pt.ne hF
   cases Ks with
   |nil=>exact absurd rfl this
   |cons _ _=>simp
  rw[this]
  refine⟨?_,aV rfl (kF rfl l.ok)⟩
  simp only[aQ,aN,iO l.gl,aC,if_true,CS,List.append_nil]
theorem GV {t:Tk} {lives bd:Bool} {fu:Nat} (hg:GT t) (i:Nat):wp (cond bd (iM t lives fu) (ret [])) (fun F _=>(bd=false→F=[])∧∀x∈F,GR lives x) i:=by
 refine wp_cond (fun hb=>?_) (fun _=>wp_ret ⟨fun _=>rfl,(fun _ h=>by cases h)⟩)
 unfold iM
 refine aZ (fun _=>wp_cond (fun _=>?_) (fun h=>by cases h)) (fun _=>wp_cond (fun h=>by cases h) (fun _=>wp_ret ⟨fun _=>rfl,(fun _ h=>by cases h)⟩))
 refine(wp_loop (I:=fun F _=>∀x∈F,GR lives x) (J:=fun F _=>∀x∈F,GR lives x) (fun _=>aA) ?_ fu _ _ (fun _ h=>by cases h)).mono fun F j h=>⟨(fun h0=>by rw[hb] at h0;cases h0),h⟩
 intro o j ho
 refine fF (wp_cond (fun _=>jq ?_) (fun h=>by cases h))
 refine av (R:=fun y _=>GR lives y) (wp_cond (fun _=>?_) (fun h0=>?_)) (fun _=>aA) fun y j2 hy=>?_
 ·refine(yI hg j).mono ?_
  rintro x j2 ⟨⟨p,s,hs,rfl⟩,-,-⟩
  exact Tv hs
 ·rw[Bool.or_eq_false_iff] at h0
  rw[h0.1]
  unfold kI
  refine bM (av (nV hg (by decide) _) (fun _=>aA) ?_)
  rintro s j2 ⟨⟨n,r,hp⟩,-,-⟩
  exact wp_ret (Tw hp)
 ·exact aZ (fun _=>wp_cond (fun _=>wp_ret ⟨fun _=>gy ho hy,(fun h=>by cases h)⟩) (fun h=>by cases h)) (fun _=>wp_cond (fun h=>by cases h) (fun _=>wp_ret ⟨(fun h=>by cases h),fun _=>gy ho hy⟩))
def zQ (t:Tk) (life bd:Bool) (n:Nat):GP (List Nr):=bnd (dh t) (fun q=>bnd (cond life (dW t) (bG t)) (fun s=>bnd (cond bd (iM t life n) (ret [])) (fun ks=>ret (nd (if life then 10 else 11) q 0 0 s ks))))
abbrev mGn (life bd:Bool):Tk→Nat→GP (List Nr):=fun t n=>zQ t life bd n
abbrev MS (life:Bool):List Nat:=if life then [4] else [2]
def Cz (life bd:Bool) (x:List Nr):Prop:=∃K us,Bk (mGn life bd) Vw [] (MS life) (fun z=>z=if life then 10 else 11) x K us
theorem Tx {bd:Bool} {p:Int} {s:ByteArray} {F:List (List Nr)} (hs:qp s) (hbd:bd=false→F=[]) (hF:∀x∈F,GR true x):Cz true bd (nd 10 p 0 0 s F):=by
 obtain⟨Ks,Us,l⟩:=nJ hF
 obtain⟨ws,hws⟩:∃ws:List Wd,ws=if F=[] then [] else [58]::aS [43] Us:=⟨_,rfl⟩
 obtain⟨g1,g2⟩:=Kj l hws
 have hg:Gr 10 0 0 s (F.map bA):=by
  have h9:∀x∈F.map bA,x=19:=fun x hx=>(l.lb x hx).elim id (fun h=>by cases h.1)
  constructor<;>intro e<;>first|exact absurd e (by decide)|exact h9
 refine⟨_,s.data.toList::ws,Pt.nd l.pt hg,?_,aV hs.2 g2,⟨_,_,rfl,by rw[hs.1];rfl⟩,?_,by rw[dA];simp[lab]⟩
 ·show glue _=glue (s.data.toList::(aC (Ks.length !=0) [[58]]++pSep [43] Ks))
  rw[aQ,aQ,g1]
 ·rintro t i ⟨a1,a2⟩ hf
  have e0:i+(s.data.toList::ws).length=i+1+ws.length:=by simp only[List.length_cons];omega
  rw[e0] at hf⊢
  obtain⟨F',h1,h2⟩:=GU hbd l hws a2 hf
  have h3:=Dt hs a1
  refine⟨nd 10 (t.pos i) 0 0 s F',bD h1,?_⟩
  show Ev (fun n=>zQ t true bd n) _ _
  exact Ev.ak bL (Ev.ak h3 (Ev.ak h2 Ev.ret'))
theorem Tz {bd:Bool} {p:Int} {s:ByteArray} {F:List (List Nr)} (hs:nI s) (hbd:bd=false→F=[]) (hF:∀x∈F,GR false x):Cz false bd (nd 11 p 0 0 s F):=by
 obtain⟨Ks,Us,l⟩:=nJ hF
 obtain⟨ws,hws⟩:∃ws:List Wd,ws=if F=[] then [] else [58]::aS [43] Us:=⟨_,rfl⟩
 obtain⟨g1,g2⟩:=Kj l hws
 have hg:Gr 11 0 0 s (F.map bA):=by
  have h9:∀x∈F.map bA,x=19∨x=18:=fun x hx=>(l.lb x hx).imp id (fun h=>h.2)
  constructor<;>intro e<;>first|exact absurd e (by decide)|exact h9
 refine⟨_,s.data.toList::ws,Pt.nd l.pt hg,?_,aV hs.2 g2,⟨_,_,rfl,by rw[hs.1];rfl⟩,?_,by rw[dA];simp[lab]⟩
 ·show glue _=glue (s.data.toList::(aC (Ks.length !=0) [[58]]++pSep [43] Ks))
  rw[aQ,aQ,g1]
 ·rintro t i ⟨a1,a2⟩ hf
  have e0:i+(s.data.toList::ws).length=i+1+ws.length:=by simp only[List.length_cons];omega
  rw[e0] at hf⊢
  obtain⟨F',h1,h2⟩:=GU hbd l hws a2 hf
  have h3:=sW hs a1
  refine⟨nd 11 (t.pos i) 0 0 s F',bD h1,?_⟩
  show Ev (fun n=>zQ t false bd n) _ _
  exact Ev.ak bL (Ev.ak h3 (Ev.ak h2 Ev.ret'))
section
variable {t:Tk} {bd:Bool} {i j:Nat} {o:List (List Nr)} {y:List Nr} {f:Bool}
theorem FD (hk:bf t i 0 0 4=true) (h:Ev (fun n=>zQ t true bd n) ⟨i,0,0⟩ (y,⟨j,0,0⟩)) {r:(Bool × (List (List Nr) × Bool)) × Rs} (h2:Ev (fun _=>bnd (aY t ⟨#[62]⟩) (fun b3=>cond b3 (ret (false,(o++[y],false))) (seq (aM t ⟨#[44]⟩) (ret (true,(o++[y],false)))))) ⟨j,0,0⟩ r):Ev (fun n=>fU t bd n (o,false)) ⟨i,0,0⟩ r:=by
 have key:Ev (fun n=>bnd (zQ t true bd n) (fun y=>bnd (aY t ⟨#[62]⟩) (fun b3=>cond b3 (ret (false,(o++[y],false))) (seq (aM t ⟨#[44]⟩) (ret (true,(o++[y],false))))))) ⟨i,0,0⟩ r:=Ev.ak h h2
 have hb:∀{α β γ:Type} (x:GP α) (f:α→GP β) (g:β→GP γ),bnd (bnd x f) g=bnd x (fun a=>bnd (f a) g):=fun x f g=>by
  funext s
  unfold bnd
  cases x s<;>rfl
 have hr:∀{α β:Type} (a:α) (f:α→GP β),bnd (ret a) f=f a:=fun a f=>rfl
 have hc:∀{α:Type} (x y:GP α),cond true x y=x:=fun x y=>rfl
 unfold zQ at key
 simp only[hb,hr,hc,if_true,Bool.false_eq_true,if_false] at key
 obtain⟨n0,hn⟩:=key
 unfold fU
 refine Ev.ak bT (Ev.yes rfl (Ev.ak bL (Ev.ak dz (Ev.yes (dR hk rfl) ?_))))
 exact⟨n0,fun n hl=>hn n hl⟩
theorem MU (hk:bf t i 0 0 4=false) (h:Ev (fun n=>zQ t false bd n) ⟨i,0,0⟩ (y,⟨j,0,0⟩)) {r:(Bool × (List (List Nr) × Bool)) × Rs} (h2:Ev (fun _=>bnd (aY t ⟨#[62]⟩) (fun b3=>cond b3 (ret (false,(o++[y],true))) (seq (aM t ⟨#[44]⟩) (ret (true,(o++[y],true)))))) ⟨j,0,0⟩ r):Ev (fun n=>fU t bd n (o,f)) ⟨i,0,0⟩ r:=by
 have key:Ev (fun n=>bnd (zQ t false bd n) (fun y=>bnd (aY t ⟨#[62]⟩) (fun b3=>cond b3 (ret (false,(o++[y],true))) (seq (aM t ⟨#[44]⟩) (ret (true,(o++[y],true))))))) ⟨i,0,0⟩ r:=Ev.ak h h2
 have hb:∀{α β γ:Type} (x:GP α) (f:α→GP β) (g:β→GP γ),bnd (bnd x f) g=bnd x (fun a=>bnd (f a) g):=fun x f g=>by
  funext s
  unfold bnd
  cases x s<;>rfl
 have hr:∀{α β:Type} (a:α) (f:α→GP β),bnd (ret a) f=f a:=fun a f=>rfl
 have hc:∀{α:Type} (x y:GP α),cond false x y=y:=fun x y=>rfl
 unfold zQ at key
 simp only[hb,hr,hc,if_true,Bool.false_eq_true,if_false] at key
 obtain⟨n0,hn⟩:=key
 unfold fU
 refine Ev.ak bT (Ev.yes rfl (Ev.ak bL (Ev.ak dz (Ev.no (oL hk) ?_))))
 exact⟨n0,fun n hl=>hn n hl⟩
theorem FE {us:List Wd} (hat:At t i us) (hd:∃u r,us=u::r∧(([]:List Wd).contains u||(MS true).contains (wk u))=true):bf t i 0 0 4=true:=by
 obtain⟨u,r,rfl,h2⟩:=hd
 rw[kE hat.1]
 have:wk u=4:=by simpa[MS] using h2
 rw[this];rfl
theorem MV {us:List Wd} (hat:At t i us) (hd:∃u r,us=u::r∧(([]:List Wd).contains u||(MS false).contains (wk u))=true):bf t i 0 0 4=false:=by
 obtain⟨u,r,rfl,h2⟩:=hd
 rw[kE hat.1]
 have:wk u=2:=by simpa[MS] using h2
 rw[this];rfl
abbrev GZ (life bd:Bool) (F:List (List Nr)) (Us:List (List Wd)):Prop:=Zip (fun x us=>qC (mGn life bd) Vw x us∧∃u r,us=u::r∧(([]:List Wd).contains u||(MS life).contains (wk u))=true) F Us
theorem Vy:∀{F:List (List Nr)} {Us:List (List Wd)},F≠[]→GZ false bd F Us→∀(i:Nat) (o:List (List Nr)) (f:Bool),At t i (aS [44] Us++[[62]])→∃F',F'.map er=F.map er∧EvL (fun n=>fU t bd n) (o,f) ⟨i,0,0⟩ ((o++F',true),⟨i+(aS [44] Us).length+1,0,0⟩)
 |[],_,hne,_,_,_,_,_=>absurd rfl hne
 |[x],[u],_,hz,i,o,f,hat=>by
  have e1:aS [44] [u]=u:=by simp[aS,jP]
  rw[e1] at hat⊢
  obtain⟨a1,a2,-⟩:=hat.app
  obtain⟨x',h1,h2⟩:=hz.1.1 t i a1 ⟨_,a2,.inl rfl⟩
  exact⟨[x'],by simp[h1],EvL.stop (MU (MV a1 hz.1.2) h2 evs)⟩
 |x::y::F,u::v::Us,_,hz,i,o,f,hat=>by
  have e1:aS [44] (u::v::Us)=u++([44]::aS [44] (v::Us)):=by simp[aS,jP]
  rw[e1] at hat⊢
  rw[List.append_assoc] at hat
  obtain⟨a1,a2,a3⟩:=hat.app
  obtain⟨x',h1,h2⟩:=hz.1.1 t i a1 ⟨_,a2,.inl rfl⟩
  obtain⟨F',h3,h4⟩:=Vy (by simp) hz.2 (i+u.length+1) (o++[x']) true a3
  refine⟨x'::F',by rw[List.map_cons,List.map_cons,h1,h3],?_⟩
  rw[List.append_assoc] at h4
  have e2:i+(u++[44]::aS [44] (v::Us)).length+1=i+u.length+1+(aS [44] (v::Us)).length+1:=by simp only[List.length_append,List.length_cons];omega
  rw[e2]
  exact EvL.on (MU (MV a1 hz.1.2) h2 evs) h4
 |_::_,[],_,hz,_,_,_,_=>hz.elim
 |[_],_::_::_,_,hz,_,_,_,_=>hz.2.elim
 |_::_::_,[_],_,hz,_,_,_,_=>hz.2.elim
theorem Vz:∀{F:List (List Nr)} {Us:List (List Wd)},F≠[]→GZ true bd F Us→∀(i:Nat) (o:List (List Nr)),At t i (aS [44] Us++[[62]])→∃F',F'.map er=F.map er∧EvL (fun n=>fU t bd n) (o,false) ⟨i,0,0⟩ ((o++F',false),⟨i+(aS [44] Us).length+1,0,0⟩)
 |[],_,hne,_,_,_,_=>absurd rfl hne
 |[x],[u],_,hz,i,o,hat=>by
  have e1:aS [44] [u]=u:=by simp[aS,jP]
  rw[e1] at hat⊢
  obtain⟨a1,a2,-⟩:=hat.app
  obtain⟨x',h1,h2⟩:=hz.1.1 t i a1 ⟨_,a2,.inl rfl⟩
  exact⟨[x'],by simp[h1],EvL.stop (FD (FE a1 hz.1.2) h2 evs)⟩
 |x::y::F,u::v::Us,_,hz,i,o,hat=>by
  have e1:aS [44] (u::v::Us)=u++([44]::aS [44] (v::Us)):=by simp[aS,jP]
  rw[e1] at hat⊢
  rw[List.append_assoc] at hat
  obtain⟨a1,a2,a3⟩:=hat.app
  obtain⟨x',h1,h2⟩:=hz.1.1 t i a1 ⟨_,a2,.inl rfl⟩
  obtain⟨F',h3,h4⟩:=Vz (by simp) hz.2 (i+u.length+1) (o++[x']) a3
  refine⟨x'::F',by rw[List.map_cons,List.map_cons,h1,h3],?_⟩
  rw[List.append_assoc] at h4
  have e2:i+(u++[44]::aS [44] (v::Us)).length+1=i+u.length+1+(aS [44] (v::Us)).length+1:=by simp only[List.length_append,List.length_cons];omega
  rw[e2]
  exact EvL.on (FD (FE a1 hz.1.2) h2 evs) h4
 |_::_,[],_,hz,_,_,_=>hz.elim
 |[_],_::_::_,_,hz,_,_,_=>hz.2.elim
 |_::_::_,[_],_,hz,_,_,_=>hz.2.elim
theorem QY:∀{F:List (List Nr)} {Us:List (List Wd)},GZ true bd F Us→∀(i:Nat) (o:List (List Nr)),At t i (kU [44] Us)→∃F',F'.map er=F.map er∧∀r,(EvL (fun n=>fU t bd n) (o++F',false) ⟨i+(kU [44] Us).length,0,0⟩ r→EvL (fun n=>fU t bd n) (o,false) ⟨i,0,0⟩ r)
 |[],[],_,i,o,hat=>⟨[],rfl,fun r h=>by rw[List.append_nil] at h;exact h⟩
 |x::F,u::Us,hz,i,o,hat=>by
  have e1:kU [44] (u::Us)=u++([44]::kU [44] Us):=by simp[kU]
  rw[e1] at hat⊢
  obtain⟨a1,a2,a3⟩:=hat.app
  obtain⟨x',h1,h2⟩:=hz.1.1 t i a1 ⟨_,a2,.inl rfl⟩
  have e2:i+(u++[44]::kU [44] Us).length=i+u.length+1+(kU [44] Us).length:=by simp only[List.length_append,List.length_cons];omega
  rw[e2]
  obtain⟨F',h3,h4⟩:=QY hz.2 (i+u.length+1) (o++[x']) a3
  refine⟨x'::F',by rw[List.map_cons,List.map_cons,h1,h3],fun r h=>?_⟩
  rw[List.append_assoc] at h4
  exact EvL.on (FD (FE a1 hz.1.2) h2 evs) (h4 r h)
 |[],_::_,hz,_,_,_=>hz.elim
 |_::_,[],hz,_,_,_=>hz.elim
end
def FoN (t:Tk) (j:Nat):Prop:=au t j 0 0 ⟨#[60]⟩=false
abbrev mG (bd:Bool):Tk→Nat→GP (List Nr):=fun t n=>iT t bd n
structure Bg (bd:Bool) (x:List Nr) (K:Kd) (us:List Wd):Prop where
 pt:Pt x K
 gl:glue us=glue K.t
 ok:∀u∈us,okW u=true
 lb:bA x=9
 rd:qC (mG bd) FoN x us
 hd:∀u∈us.take 1,u=[60]
def PG (bd:Bool) (x:List Nr):Prop:=∃K us,Bg bd x K us
theorem nG {bd:Bool} {p:Int} {A B:List (List Nr)} (hA:∀x∈A,Cz true bd x) (hB:∀x∈B,Cz false bd x) (hl:(A++B).length≤6100):PG bd (nd 9 p 0 0 E0 (A++B)):=by
 obtain⟨KA,UA,la⟩:=nJ hA
 obtain⟨KB,UB,lb⟩:=nJ hB
 have hz:=Zip.app la.pt lb.pt
 have hgl:=Zip.app la.gl lb.gl
 have hg:Gr 9 0 0 E0 ((A++B).map bA):=by
  have h9:∀x∈(A++B).map bA,x=10∨x=11:=fun x hx=>by
   rw[List.map_append] at hx
   rcases List.mem_append.1 hx with hx|hx
   ·exact .inl (la.lb x hx)
   ·exact .inr (lb.lb x hx)
  have h8:((A++B).map bA).length≤6100:=by rw[List.length_map];exact hl
  constructor<;>intro e<;>first|exact absurd e (by decide)|exact⟨h8,h9⟩
 obtain⟨ws,hws⟩:∃ws:List Wd,ws=if A++B=[] then [] else [60]::(aS [44] (UA++UB)++[[62]]):=⟨_,rfl⟩
 refine⟨_,ws,Pt.nd hz hg,?_,?_,by rw[dA];simp[lab],?_,?_⟩
 ·show glue _=glue (oP (KA++KB))
  rw[hws]
  by_cases h0:A++B=[]
  ·rw[if_pos h0]
   have:KA++KB=[]:=by
    have:=hz.len
    rw[h0] at this
    exact List.length_eq_zero_iff.1 this.symm
   rw[this];rfl
  ·rw[if_neg h0,FB (hz.ne h0)]
   unfold bF
   rw[aQ,aQ,aN,aN,iO hgl]
 ·rw[hws]
  by_cases h0:A++B=[]
  ·rw[if_pos h0];exact iZ
  ·rw[if_neg h0]
   refine aV rfl (bE (kF rfl ?_) (by decide))
   intro us dS
   rcases List.mem_append.1 dS with h|h
   ·exact la.ok us h
   ·exact lb.ok us h
 ·intro t i hat hf
  subst hws
  by_cases h0:A++B=[]
  ·rw[if_pos h0] at hat hf⊢
   have hf':au t i 0 0 ⟨#[60]⟩=false:=hf
   refine⟨nd 9 (t.pos i) 0 0 E0 [],by rw[h0];exact bD rfl,?_⟩
   show Ev (fun n=>iT t bd n) ⟨i,0,0⟩ (nd 9 (t.pos i) 0 0 E0 [],⟨i,0,0⟩)
   unfold iT;exact evs
  ·rw[if_neg h0] at hat hf⊢
   obtain⟨a1,a2⟩:=hat
   have main:∃F' f,F'.map er=(A++B).map er∧EvL (fun n=>fU t bd n) ([],false) ⟨i+1,0,0⟩ ((F',f),⟨i+1+(aS [44] (UA++UB)).length+1,0,0⟩):=by
    by_cases hb:B=[]
    ·subst hb
     have hU:UB=[]:=List.length_eq_zero_iff.1 lb.len.1.symm
     rw[hU,List.append_nil] at a2⊢
     rw[List.append_nil] at h0⊢
     obtain⟨F',h1,h2⟩:=Vz h0 la.rd _ [] a2
     exact⟨F',false,h1,h2⟩
    ·have hU:UB≠[]:=lb.rd.ne hb
     rw[Fz hU] at a2⊢
     rw[List.append_assoc] at a2
     obtain⟨a5,a6⟩:=a2.app
     obtain⟨F1,h1⟩:∃F1:List (List Nr),F1.map er=A.map er∧∀r,EvL (fun n=>fU t bd n) ([]++F1,false) ⟨i+1+(kU [44] UA).length,0,0⟩ r→EvL (fun n=>fU t bd n) ([],false) ⟨i+1,0,0⟩ r:=QY la.rd _ [] a5
     obtain⟨F2,h3,h4⟩:=Vy hb lb.rd _ F1 false a6
     have h5:=h1.2 _ h4
     refine⟨F1++F2,true,by rw[List.map_append,List.map_append,h1.1,h3],?_⟩
     have e:i+1+(kU [44] UA++aS [44] UB).length+1=i+1+(kU [44] UA).length+(aS [44] UB).length+1:=by rw[List.length_append];omega
     rw[e]
     exact h5
   obtain⟨F',f,h1,h2⟩:=main
   refine⟨nd 9 (t.pos i) 0 0 E0 F',bD h1,?_⟩
   have h3:Ev (fun n=>loop (fU t bd n) n ([],false)) ⟨i+1,0,0⟩ ((F',f),⟨i+([60]::(aS [44] (UA++UB)++[[62]])).length,0,0⟩):=Ev.to h2.ev (by simp only[List.length_cons,List.length_append,List.length_nil];omega)
   show Ev (fun n=>bnd (dh t) (fun p=>bnd (aY t ⟨#[60]⟩) (fun b=>cond b (bnd (loop (fU t bd n) n ([],false)) (fun r=>ret (nd 9 p 0 0 E0 r.1))) (ret (nd 9 p 0 0 E0 []))))) _ _
   exact evs
 ·intro u hu
  rw[hws] at hu
  by_cases h0:A++B=[]
  ·rw[if_pos h0] at hu;simp at hu
  ·rw[if_neg h0] at hu;simpa using hu
theorem BQ {t:Tk} {bd:Bool} {fu:Nat} (hg:GT t) (i:Nat):wp (iT t bd fu) (fun x _=>PG bd x) i:=by
 unfold iT
 refine bM (aZ (fun h60=>wp_cond (fun _=>?_) (fun h=>by cases h)) (fun _=>wp_cond (fun h=>by cases h) (fun _=>wp_ret (nG (A:=[]) (B:=[]) (fun _ h=>by cases h) (fun _ h=>by cases h) (by decide)))))
 refine av (R:=fun x _=>(∃A B,x.1=A++B∧(∀x∈A,Cz true bd x)∧∀x∈B,Cz false bd x)∧x.1.length≤6001) (wp_loop (I:=fun x i=>(∃A B,x.1=A++B∧(∀x∈A,Cz true bd x)∧(∀x∈B,Cz false bd x)∧(x.2=false→B=[]))∧x.1.length≤i) (fun _=>aA) ?_ fu _ _ ⟨⟨[],[],rfl,fun _ h=>(by cases h),fun _ h=>(by cases h),fun _=>rfl⟩,by simp⟩) (fun _=>aA) ?_
 ·rintro⟨o,f⟩ j ⟨⟨A,B,rfl,hA,hB,hf⟩,hlen⟩
  refine fF (wp_cond (fun _=>bM (jq (wp_cond (fun hb=>?_) (fun hb=>?_)))) (fun h=>by cases h))
  ·rw[Bool.and_eq_true] at hb
   have hf0:f=false:=by simpa using hb.2
   have hB0:=hf hf0
   subst hB0 hf0
   refine av (zM hg _) (fun _=>aA) ?_
   rintro s j2 ⟨hs,rfl,hlt⟩
   refine av (Vv (GV hg _) aA) (fun _=>aA) ?_
   rintro ks j3 ⟨⟨hbd,hks⟩,hle⟩
   have hl:(A++([]:List (List Nr))).length=A.length:=by simp
   have hj:A.length≤j:=by simpa using hlen
   have h1:∀x∈A++[nd 10 (t.pos j) 0 0 s ks],Cz true bd x:=gy hA (Tx hs hbd hks)
   refine aZ (fun he=>wp_cond (fun _=>wp_ret ⟨(fun h=>by cases h),fun _=>⟨⟨A++[nd 10 (t.pos j) 0 0 s ks],[],by simp,h1,fun _ h=>by cases h⟩,?_⟩⟩) (fun h=>by cases h)) (fun _=>wp_cond (fun h=>by cases h) (fun _=>aO aA fun he=>wp_ret ⟨fun _=>⟨⟨A++[nd 10 (t.pos j) 0 0 s ks],[],by simp,h1,(fun _ h=>by cases h),fun _=>rfl⟩,?_⟩,(fun h=>by cases h)⟩))
   ·have:=JE he
    have:=hg.few
    simp only[List.length_append,List.length_cons,List.length_nil]
    omega
   ·simp only[List.length_append,List.length_cons,List.length_nil]
    omega
  ·refine dF hg (fun _=>aA) fun s hs hlt=>?_
   refine av (Vv (GV hg _) aA) (fun _=>aA) ?_
   rintro ks j3 ⟨⟨hbd,hks⟩,hle⟩
   have hj:(A++B).length≤j:=hlen
   have h1:∀x∈B++[nd 11 (t.pos j) 0 0 s ks],Cz false bd x:=gy hB (Tz hs hbd hks)
   refine aZ (fun he=>wp_cond (fun _=>wp_ret ⟨(fun h=>by cases h),fun _=>⟨⟨A,B++[nd 11 (t.pos j) 0 0 s ks],by simp,hA,h1⟩,?_⟩⟩) (fun h=>by cases h)) (fun _=>wp_cond (fun h=>by cases h) (fun _=>aO aA fun he=>wp_ret ⟨fun _=>⟨⟨A,B++[nd 11 (t.pos j) 0 0 s ks],by simp,hA,h1,(fun h=>by cases h)⟩,?_⟩,(fun h=>by cases h)⟩))
   ·have:=JE he
    have:=hg.few
    simp only[List.length_append,List.length_cons,List.length_nil] at hj⊢
    omega
   ·simp only[List.length_append,List.length_cons,List.length_nil] at hj⊢
    omega
 ·rintro⟨o,f⟩ j ⟨⟨A,B,rfl,hA,hB⟩,hlen⟩
  exact wp_ret (nG hA hB (Nat.le_trans hlen (by decide)))
end Go.Proofs.YtdplogkmkgekdaaGreatDoor.Bk
