/- Parse of print: what is read is printed so that it is read back. -/
import Derived.Test.YtdplogkmkgekdaaGreatDoorBkk
set_option linter.all false
set_option maxRecDepth 100000
set_option maxHeartbeats 4000000
namespace Go.Proofs.YtdplogkmkgekdaaGreatDoor.Bk
theorem MN {x:List Nr} {K:Kd} (h:Pt x K):∃k p n m s F,x=nd k p n m s F∧K.k=k∧K.l=F.length:=by
 obtain⟨h0,hp⟩:=h
 cases h0 with
 |zero=>exact hp.elim
 |succ h0=>
  obtain⟨k,p,n,m,s,F,Ks,h1,h2,-,-⟩:=hp
  exact⟨k,p,n,m,s,F,h1,by rw[h2],by rw[h2]⟩
def FoR (t:Tk) (j:Nat):Prop:=cu t j [[123],[59]] []
abbrev mR:Tk→Nat→GP (List Nr):=fun t n=>dQ t (gG t n 0)
structure Br (x:List Nr) (K:Kd) (ws:List Wd):Prop where
 pt:Pt x K
 gl:glue ws=glue (kN K)
 ok:∀u∈ws,okW u=true
 lb:nN (bA x)
 rd:qC mR FoR x ws
 hd:∀u∈ws.take 1,u=[45,62]
theorem J7 {x:List Nr} (h:PT x):∃K ws,Br x K ws:=by
 obtain⟨⟨K,us,b⟩,tu⟩:=h
 obtain⟨k,p,n,m,s,F,rfl,hk,hl⟩:=MN b.pt
 by_cases h0:K.k=15∧K.l=0
 ·obtain⟨h1,h2⟩:=h0
  obtain⟨e1,e2,e3⟩:=tu k p n m s F rfl (hk.symm.trans h1)
  have hF:F=[]:=List.length_eq_zero_iff.1 (hl.symm.trans h2)
  have afq:k=15:=hk.symm.trans h1
  refine⟨K,[],b.pt,?_,iZ,b.lb,?_,fun u hu=>by simp at hu⟩
  ·unfold kN
   rw[if_pos ⟨h1,h2⟩]
  ·intro t i hat hf
   have hf':cu t i [[123],[59]] []:=hf
   refine⟨nd 15 (t.pos i) 0 0 E0 [],?_,?_⟩
   ·rw[hF,e1,e2,e3,afq];exact bD rfl
   ·show Ev (fun n=>dQ t (gG t n 0)) _ _
    unfold dQ
    exact evs
 ·refine⟨K,[45,62]::us,b.pt,?_,aV rfl b.ok,b.lb,?_,fun u hu=>by simpa using hu⟩
  ·unfold kN
   rw[if_neg h0,aQ,aQ,b.gl]
  ·rintro t i ⟨a1,a2⟩ hf
   have e0:i+([45,62]::us).length=i+1+us.length:=by simp only[List.length_cons];omega
   rw[e0] at hf⊢
   obtain⟨x',h1,h2⟩:=b.rd t (i+1) a2 (cu.sub (L:=[[123],[59]]) (N:=[]) hf rfl)
   have h2':Ev (fun n=>gG t n 0) ⟨i+1,0,0⟩ (x',⟨i+1+us.length,0,0⟩):=h2
   refine⟨x',h1,?_⟩
   show Ev (fun n=>dQ t (gG t n 0)) _ _
   unfold dQ
   exact evs
section
variable {t:Tk} {T:GP (List Nr)}
theorem J8 (hT:uq T) (i:Nat):wp (dQ t T) (fun x _=>PT x) i:=by
 unfold dQ
 exact bM (aZ (fun _=>wp_cond (fun _=>hT.1 _) (fun h=>by cases h)) (fun _=>wp_cond (fun h=>by cases h) (fun _=>wp_ret (JV (F:=[]) (fun _ h=>by cases h)))))
end
def ni (t:Tk):GP (List Nr):=bnd (dh t) (fun p=>bnd (bnd (aY t ⟨#[38]⟩) (fun Ia=>cond (Ia) (bnd (aY t ⟨#[109,117,116]⟩) (fun b20=>cond (b20) (ret ((2:Int))) (ret ((1:Int))))) (ret ((0:Int))))) (fun n=>bnd (bG t) (fun s=>ret (nd 47 p n 0 s []))))
def FoC (t:Tk) (j:Nat):Prop:=cu t j [[44],[93]] []
abbrev mC:Tk→Nat→GP (List Nr):=fun t _=>ni t
abbrev afr (x:List Nr) (K:Kd) (us:List Wd):Prop:=Bk mC FoC [[38]] [2] (fun z=>z=47) x K us
def Bb (x:List Nr):Prop:=∃K us,afr x K us
theorem abZ {p n:Int} {s:ByteArray} (hs:nI s) (hn:n=0∨n=1∨n=2):Bb (nd 47 p n 0 s []):=by
 refine⟨_,(aC (decide (0<n)) [[38]]++(aC (n==2) [[109,117,116]]++[s.data.toList])),Pt.nd (Ks:=[]) trivial (Gr.free (by unfold xV;omega)),rfl,?_,?_,?_,by rw[dA];simp[lab]⟩
 ·rcases hn with rfl|rfl|rfl
  ·exact aV hs.2 iZ
  ·exact aV rfl (aV hs.2 iZ)
  ·exact aV rfl (aV rfl (aV hs.2 iZ))
 ·rcases hn with rfl|rfl|rfl
  ·exact⟨_,_,rfl,by rw[hs.1];exact Bool.or_true _⟩
  ·exact⟨_,_,rfl,rfl⟩
  ·exact⟨_,_,rfl,rfl⟩
 ·intro t i hat hf
  refine⟨nd 47 (t.pos i) n 0 s [],bD rfl,?_⟩
  show Ev (fun _=>ni t) _ _
  rcases hn with rfl|rfl|rfl
  ·obtain⟨a1,-⟩:At t i [s.data.toList]:=hat
   have c0:cu t i [] [2]:=⟨_,a1,.inr (by rw[hs.1];rfl)⟩
   unfold ni;exact evs
  ·obtain⟨a1,a2,-⟩:At t i [[38],s.data.toList]:=hat
   have c0:cu t (i+1) [] [2]:=⟨_,a2,.inr (by rw[hs.1];rfl)⟩
   unfold ni;exact evs
  ·obtain⟨a1,a2,a3,-⟩:At t i [[38],[109,117,116],s.data.toList]:=hat
   unfold ni;exact evs
theorem ab0 {t:Tk} {X:Nat→GP (List Nr)} (hX:X=fun _=>ni t):wP t X ⟨#[44]⟩ ⟨#[93]⟩ (fun _=>rA t):=by
 have e:rA t=gH t (ni t) ⟨#[93]⟩:=by
  funext o
  unfold rA gH ni
  have hb:∀{α β γ:Type} (x:GP α) (f:α→GP β) (g:β→GP γ),bnd (bnd x f) g=bnd x (fun a=>bnd (f a) g):=fun x f g=>by
   funext s
   unfold bnd
   cases x s<;>rfl
  have hr:∀{α β:Type} (a:α) (f:α→GP β),bnd (ret a) f=f a:=fun a f=>rfl
  simp only[hb,hr]
 subst hX
 rw[e]
 exact Fj
theorem J9 {F:List (List Nr)} (h:∀x∈F,Bb x):∃Ks Us,tY mC FoC [[38]] [2] (fun z=>z=47) F Ks Us:=nJ h
theorem MO {t:Tk} {F:List (List Nr)} {Ks:List Kd} {Us:List (List Wd)} (l:tY mC FoC [[38]] [2] (fun z=>z=47) F Ks Us) {i:Nat} (hat:At t i ([91]::(aS [44] Us++[[93]]))):∃F',F'.map er=F.map er∧Ev (fun n=>jZ t n) ⟨i,0,0⟩ (F',⟨i+1+(aS [44] Us).length+1,0,0⟩):=by
 obtain⟨a1,a2⟩:=hat
 have hz:=l.rd
 cases hF:F with
 |nil=>
  subst hF
  cases Us with
  |cons _ _=>exact hz.elim
  |nil=>
   obtain⟨a3,-⟩:At t (i+1) [[93]]:=a2
   refine⟨[],rfl,?_⟩
   show Ev (fun n=>jZ t n) ⟨i,0,0⟩ ([],⟨i+1+1,0,0⟩)
   unfold jZ;exact evs
 |cons x F1=>
  subst hF
  cases Us with
  |nil=>exact hz.elim
  |cons u Us=>
   obtain⟨F',h1,h2⟩:=wP.run (m:=mC) (s:=[44]) (e:=[93]) (ab0 rfl) ⟨rfl,rfl,rfl⟩ (fun j h=>⟨_,h,.inl rfl⟩) (fun j h=>⟨_,h,.inl rfl⟩) (by simp) hz (i+1) [] a2
   have h3:cu t (i+1) [[38]] [2]:=by
    have:At t (i+1) (u++(jP [44] Us++[[93]])):=by rw[←List.append_assoc];exact a2
    exact this.app.1.head hz.1.2
   refine⟨F',h1,?_⟩
   have h4:Ev (fun n=>loop (rA t) n []) ⟨i+1,0,0⟩ (F',⟨i+1+(aS [44] (u::Us)).length+1,0,0⟩):=h2.ev
   show Ev (fun n=>seq (aM t ⟨#[91]⟩) (bnd (aY t ⟨#[93]⟩) (fun b=>cond b (ret []) (loop (rA t) n [])))) _ _
   exact evs
theorem MP {t:Tk} {fu:Nat} (hg:GT t) (i:Nat):wp (jZ t fu) (fun F _=>∀x∈F,Bb x) i:=by
 unfold jZ
 refine aO aA fun _=>aZ (fun _=>wp_cond (fun _=>wp_ret (fun _ h=>by cases h)) (fun h=>by cases h)) (fun _=>wp_cond (fun h=>by cases h) (fun _=>?_))
 refine wp_loop (I:=fun F _=>∀y∈F,Bb y) (fun _=>aA) ?_ fu _ _ (fun _ h=>by cases h)
 intro o j ho
 have key:∀y,Bb y→∀z∈o++[y],Bb z:=fun y hy z hz=>by
  rcases List.mem_append.1 hz with hz|hz
  ·exact ho z hz
  ·obtain rfl:z=y:=by simpa using hz
   exact hy
 refine fF (wp_cond (fun _=>bM ?_) (fun h=>by cases h))
 refine av (R:=fun n _=>n=0∨n=1∨n=2) ?_ (fun _=>aA) fun n j2 hn=>?_
 ·refine aZ (fun _=>wp_cond (fun _=>aZ (fun _=>wp_cond (fun _=>wp_ret (.inr (.inr rfl))) (fun h=>by cases h)) (fun _=>wp_cond (fun h=>by cases h) (fun _=>wp_ret (.inr (.inl rfl))))) (fun h=>by cases h)) (fun _=>wp_cond (fun h=>by cases h) (fun _=>wp_ret (.inl rfl)))
 ·refine dF hg (fun _=>aA) fun s hs _=>?_
  exact aZ (fun _=>wp_cond (fun _=>wp_ret ⟨(fun h=>by cases h),fun _=>key _ (abZ hs hn)⟩) (fun h=>by cases h)) (fun _=>wp_cond (fun h=>by cases h) (fun _=>aO aA fun _=>wp_ret ⟨fun _=>key _ (abZ hs hn),(fun h=>by cases h)⟩))
def Bc (t:Tk) (T:GP (List Nr)):GP (List Nr):=bnd (dh t) (fun p=>bnd (jC t) (fun m=>bnd (bG t) (fun s=>seq (aM t ⟨#[58]⟩) (bnd (T) (fun y=>ret (nd 12 p 0 m s [y]))))))
def FoM (t:Tk) (j:Nat):Prop:=cu t j [[44],[41]] []
abbrev mM:Tk→Nat→GP (List Nr):=fun t n=>Bc t (gG t n 0)
abbrev afs (x:List Nr) (K:Kd) (us:List Wd):Prop:=Bk mM FoM [[109,117,116]] [2] (fun z=>z=12) x K us
def Dx (x:List Nr):Prop:=∃K us,afs x K us
theorem nI.sz {s:ByteArray} (hs:nI s):¬s.size=0:=fun e=>hs.ne.1 (List.length_eq_zero_iff.1 (by simpa using e))
theorem nI.when {s:ByteArray} (hs:nI s) (l:List (List UInt8)):aC (s.data.toList.length !=0) l=l:=by
 have:(s.data.toList.length !=0)=true:=by
  rw[bne_iff_ne]
  exact fun e=>hs.ne.1 (List.length_eq_zero_iff.1 e)
 rw[this];rfl
theorem Td {p m:Int} {s:ByteArray} {y:List Nr} (hs:nI s) (hm:m=0∨m=1) (hy:PT y):Dx (nd 12 p 0 m s [y]):=by
 obtain⟨⟨K,u,b⟩,-⟩:=hy
 have hg:Gr 12 0 m s ([y].map bA):=by
  constructor<;>intro e<;>first|exact absurd e (by decide)|exact⟨_,rfl,b.lb⟩
 refine⟨_,aC (m==1) [[109,117,116]]++(s.data.toList::[58]::u),Pt.nd (Ks:=[K]) ⟨b.pt,trivial⟩ hg,?_,?_,?_,?_,?_⟩
 ·show glue _=glue (aC (m==1) [[109,117,116]]++(aC (s.data.toList.length !=0) [s.data.toList,[58]]++bB [K]))
  rw[hs.when]
  simp only[aQ,aN,bB,List.map_cons,List.map_nil,List.flatten_cons,List.flatten_nil,List.append_nil,b.gl,List.cons_append,List.nil_append]
 ·refine bE ?_ (aV hs.2 (aV rfl b.ok))
  rcases hm with rfl|rfl<;>decide
 ·rcases hm with rfl|rfl
  ·exact⟨_,_,rfl,by rw[hs.1];exact Bool.or_true _⟩
  ·exact⟨_,_,rfl,rfl⟩
 ·intro t i hat hf
  have hf0:cu t (i+(aC (m==1) [[109,117,116]]++(s.data.toList::[58]::u)).length) [[44],[41]] []:=hf
  have e0:i+(aC (m==1) [[109,117,116]]++(s.data.toList::[58]::u)).length=i+(aC (m==1) [[109,117,116]]).length+1+1+u.length:=by simp only[List.length_append,List.length_cons];omega
  rw[e0] at hf0⊢
  obtain⟨a0,a1,a2,a3⟩:=hat.app
  obtain⟨y',h1,h2⟩:=b.rd t _ a3 (hf0.sub rfl)
  refine⟨nd 12 (t.pos i) 0 m s [y'],bD (by simp[h1]),?_⟩
  show Ev (fun n=>Bc t (gG t n 0)) _ _
  rcases hm with rfl|rfl
  ·have a1':dI t i s.data.toList:=a1
   have a2':dI t (i+1) [58]:=a2
   have c0:cu t i [] [2]:=⟨_,a1',.inr (by rw[hs.1];rfl)⟩
   have h2':Ev (fun n=>gG t n 0) ⟨i+1+1,0,0⟩ (y',⟨i+1+1+u.length,0,0⟩):=h2
   unfold Bc;exact evs
  ·have a0':dI t i [109,117,116]:=a0.1
   have a1':dI t (i+1) s.data.toList:=a1
   have a2':dI t (i+1+1) [58]:=a2
   have h2':Ev (fun n=>gG t n 0) ⟨i+1+1+1,0,0⟩ (y',⟨i+1+1+1+u.length,0,0⟩):=h2
   unfold Bc;exact evs
 ·rw[dA]
  have:=hs.sz
  simp[lab,this]
theorem ab1 {t:Tk} {T X:Nat→GP (List Nr)} (hX:X=fun n=>Bc t (T n)):wP t X ⟨#[44]⟩ ⟨#[41]⟩ (fun n=>mV t (T n)):=by
 have e:∀n,mV t (T n)=gH t (Bc t (T n)) ⟨#[41]⟩:=by
  intro n
  funext o
  unfold mV gH Bc
  have hb:∀{α β γ:Type} (x:GP α) (f:α→GP β) (g:β→GP γ),bnd (bnd x f) g=bnd x (fun a=>bnd (f a) g):=fun x f g=>by
   funext s
   unfold bnd
   cases x s<;>rfl
  have hs:∀{α β γ:Type} (x:GP α) (f:GP β) (g:β→GP γ),bnd (seq x f) g=seq x (bnd f g):=fun x f g=>hb x _ g
  have hr:∀{α β:Type} (a:α) (f:α→GP β),bnd (ret a) f=f a:=fun a f=>rfl
  simp only[hb,hr,hs]
 subst hX
 have e2:(fun n=>mV t (T n))=fun n=>gH t (Bc t (T n)) ⟨#[41]⟩:=by funext n;exact e n
 rw[e2]
 exact Fj
theorem Ke {F:List (List Nr)} (h:∀x∈F,Dx x):∃Ks Us,tY mM FoM [[109,117,116]] [2] (fun z=>z=12) F Ks Us:=nJ h
theorem MQ {t:Tk} {F:List (List Nr)} {Ks:List Kd} {Us:List (List Wd)} (l:tY mM FoM [[109,117,116]] [2] (fun z=>z=12) F Ks Us) {i:Nat} (hat:At t i ([40]::(aS [44] Us++[[41]]))):∃F',F'.map er=F.map er∧Ev (fun n=>iw t (gG t n 0) n) ⟨i,0,0⟩ (F',⟨i+1+(aS [44] Us).length+1,0,0⟩):=by
 obtain⟨a1,a2⟩:=hat
 have hz:=l.rd
 cases hF:F with
 |nil=>
  subst hF
  cases Us with
  |cons _ _=>exact hz.elim
  |nil=>
   obtain⟨a3,-⟩:At t (i+1) [[41]]:=a2
   refine⟨[],rfl,?_⟩
   show Ev (fun n=>iw t (gG t n 0) n) ⟨i,0,0⟩ ([],⟨i+1+1,0,0⟩)
   unfold iw;exact evs
 |cons x F1=>
  subst hF
  cases Us with
  |nil=>exact hz.elim
  |cons u Us=>
   obtain⟨F',h1,h2⟩:=wP.run (m:=mM) (s:=[44]) (e:=[41]) (ab1 (T:=fun n=>gG t n 0) rfl) ⟨rfl,rfl,rfl⟩ (fun j h=>⟨_,h,.inl rfl⟩) (fun j h=>⟨_,h,.inl rfl⟩) (by simp) hz (i+1) [] a2
   have h3:cu t (i+1) [[109,117,116]] [2]:=by
    have:At t (i+1) (u++(jP [44] Us++[[41]])):=by rw[←List.append_assoc];exact a2
    exact this.app.1.head hz.1.2
   refine⟨F',h1,?_⟩
   have h4:Ev (fun n=>loop (mV t (gG t n 0)) n []) ⟨i+1,0,0⟩ (F',⟨i+1+(aS [44] (u::Us)).length+1,0,0⟩):=h2.ev
   show Ev (fun n=>seq (aM t ⟨#[40]⟩) (bnd (aY t ⟨#[41]⟩) (fun b=>cond b (ret []) (loop (mV t (gG t n 0)) n [])))) _ _
   exact evs
theorem gy {P:List Nr→Prop} {o:List (List Nr)} (ho:∀y∈o,P y) {y:List Nr} (hy:P y):∀z∈o++[y],P z:=fun z hz=>by
 rcases List.mem_append.1 hz with hz|hz
 ·exact ho z hz
 ·obtain rfl:z=y:=by simpa using hz
  exact hy
theorem MR {t:Tk} {T:GP (List Nr)} {fu:Nat} (hg:GT t) (hT:uq T) (i:Nat):wp (iw t T fu) (fun F _=>∀x∈F,Dx x) i:=by
 have sT:=hT.2
 unfold iw
 refine aO aA fun _=>aZ (fun _=>wp_cond (fun _=>wp_ret (fun _ h=>by cases h)) (fun h=>by cases h)) (fun _=>wp_cond (fun h=>by cases h) (fun _=>?_))
 refine wp_loop (I:=fun F _=>∀y∈F,Dx y) (fun _=>aA) ?_ fu _ _ (fun _ h=>by cases h)
 intro o j ho
 refine fF (wp_cond (fun _=>bM ?_) (fun h=>by cases h))
 refine av yJ (fun _=>aA) fun m j2 hm=>dF hg (fun _=>aA) fun s hs _=>aO aA fun _=>?_
 refine av (hT.1 _) (fun _=>aA) fun y j3 hy=>?_
 exact aZ (fun _=>wp_cond (fun _=>wp_ret ⟨(fun h=>by cases h),fun _=>gy ho (Td hs hm hy)⟩) (fun h=>by cases h)) (fun _=>wp_cond (fun h=>by cases h) (fun _=>aO aA fun _=>wp_ret ⟨fun _=>gy ho (Td hs hm hy),(fun h=>by cases h)⟩))
def Vo (t:Tk) (j:Nat):Prop:=cu t j [[44],[125]] []
def lM (t:Tk) (Q E:GP (List Nr)):GP (List Nr):=bnd (dh t) (fun q=>bnd (Q) (fun y=>seq (aM t ⟨#[61,62]⟩) (bnd (E) (fun z=>ret (nd 35 q 0 0 E0 [y,z])))))
abbrev mA:Tk→Nat→GP (List Nr):=fun t n=>lM t (gG t n 5) (gG t n 1)
def Oe (x:List Nr):Prop:=∃K us,Bk mA Vo LP [1,2] (fun z=>z=35) x K us
theorem ab2 {p:Int} {y z:List Nr} (hy:PP y) (hz:PX z):Oe (nd 35 p 0 0 E0 [y,z]):=by
 obtain⟨K1,u1,b1⟩:=hy
 obtain⟨K2,u2,o2,b2⟩:=hz
 have hg:Gr 35 0 0 E0 ([y,z].map bA):=by
  constructor<;>intro e<;>first|exact absurd e (by decide)|exact⟨_,_,rfl,b1.lb,b2.lb⟩
 refine⟨_,u1++([61,62]::u2),Pt.nd (Ks:=[K1,K2]) ⟨b1.pt,b2.pt,trivial⟩ hg,?_,bE b1.ok (aV rfl b2.ok),?_,?_,by rw[dA];simp[lab]⟩
 ·show glue _=glue (K1.t++(([61,62]::K2.t)++[]))
  simp only[aQ,aN,b1.gl,b2.gl,List.append_nil]
 ·obtain⟨u,r,rfl,h2⟩:=b1.hd
  exact⟨u,_,rfl,h2⟩
 ·intro t i hat hf
  obtain⟨a1,a2,a3⟩:=hat.app
  have e0:i+(u1++([61,62]::u2)).length=i+u1.length+1+u2.length:=by simp only[List.length_append,List.length_cons];omega
  rw[e0] at hf⊢
  obtain⟨y',h1,h2⟩:=b1.rd t i a1 ⟨_,a2,.inl rfl⟩
  obtain⟨z',h3,h4⟩:=b2.rd t _ a3 (cu.sub (L:=[[44],[125]]) (N:=[]) hf rfl)
  have h2':Ev (fun n=>gG t n 5) ⟨i,0,0⟩ (y',⟨i+u1.length,0,0⟩):=h2
  have h4':Ev (fun n=>gG t n 1) ⟨i+u1.length+1,0,0⟩ (z',⟨i+u1.length+1+u2.length,0,0⟩):=h4
  refine⟨nd 35 (t.pos i) 0 0 E0 [y',z'],bD (by simp[h1,h3]),?_⟩
  show Ev (fun n=>lM t (gG t n 5) (gG t n 1)) _ _
  unfold lM;exact evs
theorem ab3 {t:Tk} {Q E X:Nat→GP (List Nr)} (hX:X=fun n=>lM t (Q n) (E n)):wQ t X ⟨#[44]⟩ ⟨#[125]⟩ (fun n=>pX t (E n) (Q n)):=by
 have hb:∀{α β γ:Type} (x:GP α) (f:α→GP β) (g:β→GP γ),bnd (bnd x f) g=bnd x (fun a=>bnd (f a) g):=fun x f g=>by
  funext s
  unfold bnd
  cases x s<;>rfl
 have hs:∀{α β γ:Type} (x:GP α) (f:GP β) (g:β→GP γ),bnd (seq x f) g=seq x (bnd f g):=fun x f g=>hb x _ g
 have hr:∀{α β:Type} (a:α) (f:α→GP β),bnd (ret a) f=f a:=fun a f=>rfl
 have e:∀n o,pX t (E n) (Q n) o=bnd (gN) (fun Ai=>bnd (cond (Ai) (aY t ⟨#[125]⟩) (ret (true))) (fun b32=>cond (b32) (ret (false,o)) (bnd (lM t (Q n) (E n)) (fun y=>bnd (bY t 0 ⟨#[125]⟩) (fun Aj=>cond (Aj) (ret (true,o++[y])) (seq (aM t ⟨#[44]⟩) (ret (true,o++[y])))))))):=by
  intro n o
  unfold pX lM
  simp only[hb,hr,hs]
 subst hX
 refine⟨?_,?_,?_⟩
 ·intro o i h1
  simp only[e];exact evs
 ·intro o i j y h1 h2 h3
  simp only[e];exact evs
 ·intro o i j y h1 h2 h3 h4
  simp only[e];exact evs
def jF (t:Tk) (E:GP (List Nr)):GP (List Nr):=bnd (dh t) (fun q=>bnd (bG t) (fun s2=>seq (aM t ⟨#[58]⟩) (bnd (E) (fun z=>ret (nd 45 q 0 0 s2 [z])))))
abbrev mI:Tk→Nat→GP (List Nr):=fun t n=>jF t (gG t n 1)
def Hz (x:List Nr):Prop:=∃K us,Bk mI Vo [] [2] (fun z=>z=45) x K us
theorem Vp {p:Int} {s:ByteArray} {z:List Nr} (hs:nI s) (hz:PX z):Hz (nd 45 p 0 0 s [z]):=by
 obtain⟨K2,u2,o2,b2⟩:=hz
 have hg:Gr 45 0 0 s ([z].map bA):=by
  constructor<;>intro e<;>first|exact absurd e (by decide)|exact⟨_,rfl,b2.lb⟩
 refine⟨_,s.data.toList::[58]::u2,Pt.nd (Ks:=[K2]) ⟨b2.pt,trivial⟩ hg,?_,aV hs.2 (aV rfl b2.ok),⟨_,_,rfl,by rw[hs.1];exact Bool.or_true _⟩,?_,by rw[dA];simp[lab]⟩
 ·show glue _=glue (s.data.toList::[58]::bB [K2])
  simp only[aQ,bB,List.map_cons,List.map_nil,List.flatten_cons,List.flatten_nil,List.append_nil,b2.gl]
 ·rintro t i ⟨a1,a2,a3⟩ hf
  have e0:i+(s.data.toList::[58]::u2).length=i+1+1+u2.length:=by simp only[List.length_cons];omega
  rw[e0] at hf⊢
  obtain⟨z',h3,h4⟩:=b2.rd t _ a3 (cu.sub (L:=[[44],[125]]) (N:=[]) hf rfl)
  have h4':Ev (fun n=>gG t n 1) ⟨i+1+1,0,0⟩ (z',⟨i+1+1+u2.length,0,0⟩):=h4
  refine⟨nd 45 (t.pos i) 0 0 s [z'],bD (by simp[h3]),?_⟩
  show Ev (fun n=>jF t (gG t n 1)) _ _
  unfold jF;exact evs
theorem Ym {t:Tk} {E X:Nat→GP (List Nr)} (hX:X=fun n=>jF t (E n)):wQ t X ⟨#[44]⟩ ⟨#[125]⟩ (fun n=>rC t (E n)):=by
 have hb:∀{α β γ:Type} (x:GP α) (f:α→GP β) (g:β→GP γ),bnd (bnd x f) g=bnd x (fun a=>bnd (f a) g):=fun x f g=>by
  funext s
  unfold bnd
  cases x s<;>rfl
 have hs:∀{α β γ:Type} (x:GP α) (f:GP β) (g:β→GP γ),bnd (seq x f) g=seq x (bnd f g):=fun x f g=>hb x _ g
 have hr:∀{α β:Type} (a:α) (f:α→GP β),bnd (ret a) f=f a:=fun a f=>rfl
 have e:∀n o,rC t (E n) o=bnd (gN) (fun Ai=>bnd (cond (Ai) (aY t ⟨#[125]⟩) (ret (true))) (fun b32=>cond (b32) (ret (false,o)) (bnd (jF t (E n)) (fun y=>bnd (bY t 0 ⟨#[125]⟩) (fun Aj=>cond (Aj) (ret (true,o++[y])) (seq (aM t ⟨#[44]⟩) (ret (true,o++[y])))))))):=by
  intro n o
  unfold rC jF
  simp only[hb,hr,hs]
 subst hX
 refine⟨?_,?_,?_⟩
 ·intro o i h1
  simp only[e];exact evs
 ·intro o i j y h1 h2 h3
  simp only[e];exact evs
 ·intro o i j y h1 h2 h3 h4
  simp only[e];exact evs
theorem PX.rP {x:List Nr} {K:Kd} {us:List Wd} (pt:Pt x K) (lb:dB (bA x)) (hk:nS K.k=false) (gl:glue us=glue K.t) (ok:∀u∈us,okW u=true) (hd:∃u r,us=u::r∧(LE.contains u&&Dw.all (fun w=>!lT u w))=true) (rd:qC JZ xI x us):PX x:=by
 obtain⟨u,r,e,h1⟩:=hd
 rw[Bool.and_eq_true] at h1
 refine PX.other pt lb hk gl ok ⟨u,r,e,by rw[h1.1];rfl⟩ ?_ (fun _ _ _ _=>rd)
 intro t i hat hf
 obtain⟨x',h3,h4⟩:=rd t i hat hf
 subst e
 exact⟨x',h3,abR h4 (kV hat.1 h1.2) hf⟩
theorem Te {p:Int}:PX (nd 38 p 0 0 E0 []):=by
 refine PX.rP (K:=⟨38,0,_⟩) (us:=[[98,114,101,97,107]]) (Pt.nd (Ks:=[]) trivial (Gr.free (by unfold xV;omega))) (by rw[dA];unfold dB lab;simp) rfl rfl (by decide) ⟨_,_,rfl,rfl⟩ ?_
 rintro t i ⟨a1,-⟩ hf
 exact⟨nd 38 (t.pos i) 0 0 E0 [],bD rfl,tZ (by unfold aX bO;exact evs)⟩
theorem Yn {p:Int}:PX (nd 39 p 0 0 E0 []):=by
 refine PX.rP (K:=⟨39,0,_⟩) (us:=[[110,101,120,116]]) (Pt.nd (Ks:=[]) trivial (Gr.free (by unfold xV;omega))) (by rw[dA];unfold dB lab;simp) rfl rfl (by decide) ⟨_,_,rfl,rfl⟩ ?_
 rintro t i ⟨a1,-⟩ hf
 exact⟨nd 39 (t.pos i) 0 0 E0 [],bD rfl,tZ (by unfold aX bO;exact evs)⟩
theorem Tf {p:Int}:PX (nd 41 p 0 0 E0 []):=by
 refine PX.rP (K:=⟨41,0,_⟩) (us:=[[112,97,110,105,99]]) (Pt.nd (Ks:=[]) trivial (Gr.free (by unfold xV;omega))) (by rw[dA];unfold dB lab;simp) rfl rfl (by decide) ⟨_,_,rfl,rfl⟩ ?_
 rintro t i ⟨a1,-⟩ hf
 exact⟨nd 41 (t.pos i) 0 0 E0 [],bD rfl,tZ (by unfold aX bO;exact evs)⟩
theorem aei {t:Tk} {j:Nat} (h:cu t j S1 []):(au t j 0 0 ⟨#[59]⟩||(au t j 0 0 ⟨#[125]⟩||(au t j 0 0 ⟨#[41]⟩||(au t j 0 0 ⟨#[44]⟩||au t j 0 0 ⟨#[93]⟩))))=true:=by
 obtain⟨u,h1,h2⟩:=h
 simp only[wO h1]
 simp only[List.contains_iff_mem,List.mem_cons,List.not_mem_nil,or_false] at h2
 rcases h2 with rfl|rfl|rfl|rfl|rfl<;>rfl
theorem aej {t:Tk} {j:Nat} {N:List Nat} {L:List Wd} (h:cu t j L N) (h1:(!(L.contains [59])&&N.all (fun q=>q !=5&&q !=3))=true) (h2:(!(L.contains [125])&&N.all (fun q=>q !=5&&q !=3))=true) (h3:(!(L.contains [41])&&N.all (fun q=>q !=5&&q !=3))=true) (h4:(!(L.contains [44])&&N.all (fun q=>q !=5&&q !=3))=true) (h5:(!(L.contains [93])&&N.all (fun q=>q !=5&&q !=3))=true):(au t j 0 0 ⟨#[59]⟩||(au t j 0 0 ⟨#[125]⟩||(au t j 0 0 ⟨#[41]⟩||(au t j 0 0 ⟨#[44]⟩||au t j 0 0 ⟨#[93]⟩))))=false:=by
 rw[bQ (W:=⟨#[59]⟩) h h1,bQ (W:=⟨#[125]⟩) h h2,bQ (W:=⟨#[41]⟩) h h3,bQ (W:=⟨#[44]⟩) h h4,bQ (W:=⟨#[93]⟩) h h5]
 rfl
theorem Yo {p:Int}:PX (nd 40 p 0 0 E0 []):=by
 have hg:Gr 40 0 0 E0 (([]:List (List Nr)).map bA):=by
  constructor<;>intro e<;>first|exact absurd e (by decide)|exact⟨by simp,fun _ h=>by cases h⟩
 refine PX.rP (K:=⟨40,0,_⟩) (us:=[[114,101,116,117,114,110]]) (Pt.nd (Ks:=[]) trivial hg) (by rw[dA];unfold dB lab;simp) rfl rfl (by decide) ⟨_,_,rfl,rfl⟩ ?_
 rintro t i ⟨a1,-⟩ hf
 have k1:=aei (j:=i+1) hf
 exact⟨nd 40 (t.pos i) 0 0 E0 [],bD rfl,tZ (by unfold aX bO;exact evs)⟩
theorem ab4 {p:Int} {y:List Nr} (hy:PX y):PX (nd 40 p 0 0 E0 [y]):=by
 obtain⟨K,u,o,b⟩:=hy
 have hg:Gr 40 0 0 E0 ([y].map bA):=by
  constructor<;>intro e<;>first|exact absurd e (by decide)|exact⟨by simp,fun z h=>by rw[List.mem_singleton.1 h];exact b.lb⟩
 refine PX.rP (K:=⟨40,1,_⟩) (us:=[114,101,116,117,114,110]::u) (Pt.nd (Ks:=[K]) ⟨b.pt,trivial⟩ hg) (by rw[dA];unfold dB lab;simp) rfl ?_ (aV rfl b.ok) ⟨_,_,rfl,rfl⟩ ?_
 ·show glue _=glue ([114,101,116,117,114,110]::bB [K])
  simp only[aQ,bB,List.map_cons,List.map_nil,List.flatten_cons,List.flatten_nil,List.append_nil,b.gl]
 ·rintro t i ⟨a1,a2⟩ hf
  have e0:i+([114,101,116,117,114,110]::u).length=i+1+u.length:=by simp only[List.length_cons];omega
  rw[e0] at hf⊢
  obtain⟨y',h1,h2⟩:=b.rd t _ a2 hf
  have h2':Ev (fun n=>gG t n 1) ⟨i+1,0,0⟩ (y',⟨i+1+u.length,0,0⟩):=h2
  have k1:=aej (a2.head b.hd) rfl rfl rfl rfl rfl
  exact⟨nd 40 (t.pos i) 0 0 E0 [y'],bD (by simp[h1]),tZ (by unfold aX bO;exact evs)⟩
abbrev mB:Tk→Nat→GP (List Nr):=fun t n=>gG t n 3
abbrev mJ:Tk→Nat→GP (List Nr):=fun t n=>gG t n 4
def PB (x:List Nr):Prop:=∃K us,Bk mB Ez [[123]] [] (fun z=>z=42) x K us
def PJ (x:List Nr):Prop:=∃K us,Bk mJ xI [[105,102]] [] (fun z=>z=33) x K us
theorem BP {L:List Wd} {us:List Wd} {w:Wd} (h:∃u r,us=u::r∧([w].contains u||([]:List Nat).contains (wk u))=true):∃r,us=w::r:=by
 obtain⟨u,r,h1,h2⟩:=h
 have:u=w:=by simpa using h2
 exact⟨r,by rw[h1,this]⟩
theorem Vq {x:List Nr} {K:Kd} (pt:Pt x K) {q:Int} (h:bA x=q) (hq:20≤q∧q≤54):K.k=q:=by
 obtain⟨k,p,n,m,s,F,rfl,hk,-⟩:=MN pt
 rw[dA] at h
 rw[hk]
 unfold lab at h
 split at h
 ·split at h
  ·split at h<;>omega
  ·split at h<;>omega
 ·split at h
  ·split at h<;>omega
  ·split at h
   ·split at h
    ·split at h<;>omega
    ·omega
   ·split at h
    ·split at h<;>omega
    ·split at h<;>omega
theorem Tg {x:List Nr} (hx:PB x):PX x:=by
 obtain⟨K,u,b⟩:=hx
 have hk:=Vq b.pt b.lb (by decide)
 refine PX.rP b.pt (by rw[b.lb];unfold dB;omega) (by rw[hk];rfl) b.gl b.ok ?_ ?_
 ·obtain⟨r,e⟩:=BP (L:=[]) b.hd
  exact⟨_,r,e,rfl⟩
 ·intro t i hat hf
  obtain⟨r,e⟩:=BP (L:=[]) b.hd
  obtain⟨x',h1,h2⟩:=b.rd t i hat trivial
  have a1:dI t i [123]:=by rw[e] at hat;exact hat.1
  have h2':Ev (fun n=>gG t n 3) ⟨i,0,0⟩ (x',⟨i+u.length,0,0⟩):=h2
  exact⟨x',h1,tZ (by unfold aX;exact evs)⟩
theorem Yp {p:Int} {y:List Nr} (hy:PB y):PX (nd 37 p 0 0 E0 [y]):=by
 obtain⟨K,u,b⟩:=hy
 have hg:Gr 37 0 0 E0 ([y].map bA):=by
  constructor<;>intro e<;>first|exact absurd e (by decide)|exact⟨_,rfl,by rw[b.lb];unfold dB;omega⟩
 refine PX.rP (K:=⟨37,1,_⟩) (us:=[108,111,111,112]::u) (Pt.nd (Ks:=[K]) ⟨b.pt,trivial⟩ hg) (by rw[dA];unfold dB lab;simp) rfl ?_ (aV rfl b.ok) ⟨_,_,rfl,rfl⟩ ?_
 ·show glue _=glue ([108,111,111,112]::bB [K])
  simp only[aQ,bB,List.map_cons,List.map_nil,List.flatten_cons,List.flatten_nil,List.append_nil,b.gl]
 ·rintro t i ⟨a1,a2⟩ hf
  have e0:i+([108,111,111,112]::u).length=i+1+u.length:=by simp only[List.length_cons];omega
  rw[e0] at hf⊢
  obtain⟨y',h1,h2⟩:=b.rd t _ a2 trivial
  have h2':Ev (fun n=>gG t n 3) ⟨i+1,0,0⟩ (y',⟨i+1+u.length,0,0⟩):=h2
  exact⟨nd 37 (t.pos i) 0 0 E0 [y'],bD (by simp[h1]),tZ (by unfold aX bO;exact evs)⟩
theorem Ti {p:Int} {c y:List Nr} (hc:PX c) (hy:PB y):PX (nd 36 p 0 0 E0 [c,y]):=by
 obtain⟨K1,u1,o1,b1⟩:=hc
 obtain⟨K,u,b⟩:=hy
 have hg:Gr 36 0 0 E0 ([c,y].map bA):=by
  constructor<;>intro e<;>first|exact absurd e (by decide)|exact⟨_,_,rfl,b1.lb,by rw[b.lb];unfold dB;omega⟩
 refine PX.rP (K:=⟨36,2,_⟩) (us:=[119,104,105,108,101]::(o1++u)) (Pt.nd (Ks:=[K1,K]) ⟨b1.pt,b.pt,trivial⟩ hg) (by rw[dA];unfold dB lab;simp) rfl ?_ (aV rfl (bE b1.EB b.ok)) ⟨_,_,rfl,rfl⟩ ?_
 ·show glue _=glue ([119,104,105,108,101]::(gQ K1++K.t))
  simp only[aQ,aN,b.gl,b1.yM]
 ·rintro t i ⟨a1,a2⟩ hf
  obtain⟨a3,a4⟩:=a2.app
  have e0:i+([119,104,105,108,101]::(o1++u)).length=i+1+o1.length+u.length:=by simp only[List.length_cons,List.length_append];omega
  rw[e0] at hf⊢
  obtain⟨c',h3,h4⟩:=b1.EC.e a3 (a3.head b1.Ba) ((a4.head b.hd).sub rfl)
  obtain⟨y',h1,h2⟩:=b.rd t _ a4 trivial
  have h2':Ev (fun n=>gG t n 3) ⟨i+1+o1.length,0,0⟩ (y',⟨i+1+o1.length+u.length,0,0⟩):=h2
  have h4':Ev (fun n=>gG t n 1) ⟨i+1,0,0⟩ (c',⟨i+1+o1.length,0,0⟩):=h4
  exact⟨nd 36 (t.pos i) 0 0 E0 [c',y'],bD (by simp[h1,h3]),tZ (by unfold aX bO;exact evs)⟩
theorem gJ {t:Tk} {s:Rs} {r:List Nr × Rs} (h:Ev (fun n=>rz t (gG t n 1) (gG t n 3) (gG t n 4)) s r):Ev (mJ t) s r:=Ev.up h (fun _=>rfl)
theorem ab5 {p:Int} {c y:List Nr} (hc:PX c) (hy:PB y):PJ (nd 33 p 0 0 E0 [c,y]):=by
 obtain⟨K1,u1,o1,b1⟩:=hc
 obtain⟨K,u,b⟩:=hy
 have hg:Gr 33 0 0 E0 ([c,y].map bA):=by
  constructor<;>intro e<;>first|exact absurd e (by decide)|exact⟨_,_,[],rfl,by simp,b1.lb,by rw[b.lb];unfold dB;omega,fun _ h=>by cases h⟩
 refine⟨⟨33,2,_⟩,[105,102]::(o1++u),Pt.nd (Ks:=[K1,K]) ⟨b1.pt,b.pt,trivial⟩ hg,?_,aV rfl (bE b1.EB b.ok),⟨_,_,rfl,rfl⟩,?_,by rw[dA];simp[lab]⟩
 ·show glue _=glue ([105,102]::(gQ K1++(K.t++[])))
  simp only[aQ,aN,b.gl,b1.yM,List.append_nil]
 ·rintro t i ⟨a1,a2⟩ hf
  obtain⟨a3,a4⟩:=a2.app
  have e0:i+([105,102]::(o1++u)).length=i+1+o1.length+u.length:=by simp only[List.length_cons,List.length_append];omega
  rw[e0] at hf⊢
  have hf':cu t (i+1+o1.length+u.length) S1 []:=hf
  obtain⟨c',h3,h4⟩:=b1.EC.e a3 (a3.head b1.Ba) ((a4.head b.hd).sub rfl)
  obtain⟨y',h1,h2⟩:=b.rd t _ a4 trivial
  have h2':Ev (fun n=>gG t n 3) ⟨i+1+o1.length,0,0⟩ (y',⟨i+1+o1.length+u.length,0,0⟩):=h2
  have h4':Ev (fun n=>gG t n 1) ⟨i+1,0,0⟩ (c',⟨i+1+o1.length,0,0⟩):=h4
  exact⟨nd 33 (t.pos i) 0 0 E0 [c',y'],bD (by simp[h1,h3]),gJ (by unfold rz;exact evs)⟩
theorem Tj {p:Int} {c y z:List Nr} (hc:PX c) (hy:PB y) (hz:PB z∨PJ z):PJ (nd 33 p 0 0 E0 [c,y,z]):=by
 obtain⟨K1,u1,o1,b1⟩:=hc
 obtain⟨K,u,b⟩:=hy
 obtain⟨K3,u3,q1,q2,q3,q4,q5⟩:∃K3 u3,Pt z K3∧glue u3=glue K3.t∧(∀v∈u3,okW v=true)∧dB (bA z)∧∀(t:Tk) (i:Nat),At t i u3→xI t (i+u3.length)→∃z',er z'=er z∧Ev (fun n=>cond (au t i 0 0 ⟨#[105,102]⟩) (gG t n 4) (gG t n 3)) ⟨i,0,0⟩ (z',⟨i+u3.length,0,0⟩):=by
  rcases hz with⟨K3,u3,b3⟩|⟨K3,u3,b3⟩
  ·refine⟨K3,u3,b3.pt,b3.gl,b3.ok,by rw[b3.lb];unfold dB;omega,fun t i hat hf=>?_⟩
   obtain⟨z',h1,h2⟩:=b3.rd t i hat trivial
   have c1:=hat.head b3.hd
   exact⟨z',h1,Ev.no (bQ c1 rfl) h2⟩
  ·refine⟨K3,u3,b3.pt,b3.gl,b3.ok,by rw[b3.lb];unfold dB;omega,fun t i hat hf=>?_⟩
   obtain⟨z',h1,h2⟩:=b3.rd t i hat hf
   obtain⟨r,e⟩:=BP (L:=[]) b3.hd
   have a1:dI t i [105,102]:=by rw[e] at hat;exact hat.1
   exact⟨z',h1,Ev.yes (fD a1 rfl) h2⟩
 have hg:Gr 33 0 0 E0 ([c,y,z].map bA):=by
  constructor<;>intro e<;>first|exact absurd e (by decide)|exact⟨_,_,[bA z],rfl,by simp,b1.lb,by rw[b.lb];unfold dB;omega,fun v h=>by
   obtain rfl:v=bA z:=by simpa using h
   exact q4⟩
 refine⟨⟨33,3,_⟩,[105,102]::(o1++(u++([101,108,115,101]::u3))),Pt.nd (Ks:=[K1,K,K3]) ⟨b1.pt,b.pt,q1,trivial⟩ hg,?_,aV rfl (bE b1.EB (bE b.ok (aV rfl q3))),⟨_,_,rfl,rfl⟩,?_,by rw[dA];simp[lab]⟩
 ·show glue _=glue ([105,102]::(gQ K1++(K.t++([101,108,115,101]::bB [K3]))))
  simp only[aQ,aN,b.gl,b1.yM,List.append_nil,bB,List.map_cons,List.map_nil,List.flatten_cons,List.flatten_nil,q2]
 ·rintro t i ⟨a1,a2⟩ hf
  obtain⟨a3,a4⟩:=a2.app
  obtain⟨a5,a6,a7⟩:=a4.app
  have e0:i+([105,102]::(o1++(u++([101,108,115,101]::u3)))).length=i+1+o1.length+u.length+1+u3.length:=by simp only[List.length_cons,List.length_append];omega
  rw[e0] at hf⊢
  obtain⟨c',h3,h4⟩:=b1.EC.e a3 (a3.head b1.Ba) ((a5.head b.hd).sub rfl)
  obtain⟨y',h1,h2⟩:=b.rd t _ a5 trivial
  obtain⟨z',h5,h6⟩:=q5 t _ a7 hf
  have h2':Ev (fun n=>gG t n 3) ⟨i+1+o1.length,0,0⟩ (y',⟨i+1+o1.length+u.length,0,0⟩):=h2
  have h4':Ev (fun n=>gG t n 1) ⟨i+1,0,0⟩ (c',⟨i+1+o1.length,0,0⟩):=h4
  refine⟨nd 33 (t.pos i) 0 0 E0 [c',y',z'],bD (by simp[h1,h3,h5]),gJ ?_⟩
  unfold rz
  refine Ev.ak bL (Ev.seq (bP GH) (Ev.ak h4' (Ev.ak h2' (Ev.ak (iV GH) (Ev.yes rfl (Ev.ak aI (Ev.ak h6 Ev.ret')))))))
theorem aek {x:List Nr} (hx:PJ x):PX x:=by
 obtain⟨K,u,b⟩:=hx
 have hk:=Vq b.pt b.lb (by decide)
 refine PX.rP b.pt (by rw[b.lb];unfold dB;omega) (by rw[hk];rfl) b.gl b.ok ?_ ?_
 ·obtain⟨r,e⟩:=BP (L:=[]) b.hd
  exact⟨_,r,e,rfl⟩
 ·intro t i hat hf
  obtain⟨r,e⟩:=BP (L:=[]) b.hd
  obtain⟨x',h1,h2⟩:=b.rd t i hat hf
  have a1:dI t i [105,102]:=by rw[e] at hat;exact hat.1
  have h2':Ev (fun n=>gG t n 4) ⟨i,0,0⟩ (x',⟨i+u.length,0,0⟩):=h2
  exact⟨x',h1,tZ (by unfold aX bO;exact evs)⟩
theorem Tm {p:Int} {c:List Nr} {F:List (List Nr)} (hc:PX c) (hF:∀x∈F,Oe x):PX (nd 34 p 0 0 E0 (c::F)):=by
 obtain⟨K1,u1,o1,b1⟩:=hc
 obtain⟨Ks,Us,l⟩:=nJ hF
 have hg:Gr 34 0 0 E0 ((c::F).map bA):=by
  constructor<;>intro e<;>first|exact absurd e (by decide)|exact⟨_,_,rfl,b1.lb,l.lb⟩
 refine PX.rP (K:=⟨34,(c::F).length,_⟩) (us:=[109,97,116,99,104]::(o1++([123]::(aS [44] Us++[[125]])))) (Pt.nd (Ks:=K1::Ks) ⟨b1.pt,l.pt⟩ hg) (by rw[dA];unfold dB lab;simp) rfl ?_ (aV rfl (bE b1.EB (aV rfl (bE (kF rfl l.ok) (by decide))))) ⟨_,_,rfl,rfl⟩ ?_
 ·show glue _=glue ([109,97,116,99,104]::(gQ K1++bF [123] [125] Ks))
  unfold bF
  simp only[aQ,aN,b1.yM,iO l.gl]
 ·rintro t i ⟨a1,a2⟩ hf
  obtain⟨a3,a4,a5⟩:=a2.app
  obtain⟨c',h3,h4⟩:=b1.EC.e a3 (a3.head b1.Ba) ⟨_,a4,.inl rfl⟩
  obtain⟨F',h1,h2⟩:=wQ.run (m:=mA) (s:=[44]) (e:=[125]) (ab3 (Q:=fun n=>gG t n 5) (E:=fun n=>gG t n 1) rfl) ⟨rfl,rfl,rfl⟩ (fun j h=>⟨_,h,.inl rfl⟩) (fun j h=>⟨_,h,.inl rfl⟩) (fun j h=>bQ h rfl) l.rd _ [c'] a5
  have h4':Ev (fun n=>gG t n 1) ⟨i+1,0,0⟩ (c',⟨i+1+o1.length,0,0⟩):=h4
  have h5:Ev (fun n=>loop (pX t (gG t n 1) (gG t n 5)) n [c']) ⟨i+1+o1.length+1,0,0⟩ (c'::F',⟨i+([109,97,116,99,104]::(o1++([123]::(aS [44] Us++[[125]])))).length,0,0⟩):=Ev.to h2.ev (by simp only[List.length_cons,List.length_append,List.length_nil];omega)
  refine⟨nd 34 (t.pos i) 0 0 E0 (c'::F'),bD (by simp[h1,h3]),tZ ?_⟩
  have main:Ev (fun n=>mQ t (gG t n 1) (gG t n 5) n) ⟨i,0,0⟩ (nd 34 (t.pos i) 0 0 E0 (c'::F'),⟨i+([109,97,116,99,104]::(o1++([123]::(aS [44] Us++[[125]])))).length,0,0⟩):=by
   show Ev (fun n=>bnd (dh t) (fun p=>seq (aM t ⟨#[109,97,116,99,104]⟩) (bnd (gG t n 1) (fun c=>seq (aM t ⟨#[123]⟩) (bnd (loop (pX t (gG t n 1) (gG t n 5)) n [c]) (fun r=>ret (nd 34 p 0 0 E0 r))))))) _ _
   exact evs
  unfold aX bO
  exact evs
theorem Yq {p:Int} {s n:ByteArray} {r:List ByteArray} {F G:List (List Nr)} (hp:qD 2 s n r) (hF:∀x∈F,PT x) (hG:∀x∈G,Hz x):PX (nd 44 p 0 (F.length:Int) s (F++G)):=by
 obtain⟨Ks,Us,l⟩:=Fw hF
 obtain⟨Kg,Ug,lg⟩:=nJ hG
 obtain⟨ws,hws⟩:∃ws:List Wd,ws=if F=[] then [] else [58,58]::[60]::(aS [44] Us++[[62]]):=⟨_,rfl⟩
 obtain⟨g1,g2⟩:=J3 l hws
 have hg:Gr 44 0 (F.length:Int) s ((F++G).map bA):=by
  constructor<;>intro e<;>first|exact absurd e (by decide)|exact⟨hp.path,F.map bA,G.map bA,List.map_append ..,by simp,tyl l.lb,lg.lb⟩
 refine PX.FC (us:=[109,97,107,101]::(pw n r++(ws++([123]::(aS [44] Ug++[[125]]))))) (Ks:=Ks++Kg) (l.pt.app lg.pt) hg rfl ?_ (aV rfl (bE hp.ok (bE g2 (aV rfl (bE (kF rfl lg.ok) (by decide)))))) ⟨_,_,rfl,rfl⟩ (by unfold dB lab;simp) ?_
 ·show glue _=glue ([109,97,107,101]::jQ s.data.toList::(qm ((Ks++Kg).take (F.length:Int).toNat)++bF [123] [125] ((Ks++Kg).drop (F.length:Int).toNat)))
  have e1:(F.length:Int).toNat=Ks.length:=by rw[l.len.2];simp
  rw[e1,List.take_left,List.drop_left,aQ,hp.glue]
  unfold bF
  simp only[aQ,aN,iO lg.gl,g1]
 ·rintro t i ⟨a1,a2⟩ hf
  obtain⟨a3,a4⟩:=a2.app
  obtain⟨a5,a6,a7⟩:=a4.app
  obtain⟨F',h1,h2⟩:=ED l hws a5 (gY a6 rfl)
  obtain⟨G',h3,h4⟩:=wQ.run (m:=mI) (s:=[44]) (e:=[125]) (Ym (E:=fun n=>gG t n 1) rfl) ⟨rfl,rfl,rfl⟩ (fun j h=>⟨_,h,.inl rfl⟩) (fun j h=>⟨_,h,.inl rfl⟩) (fun j h=>bQ h rfl) lg.rd _ F' a7
  have k1:Ev (fun fu=>iq t fu 2) ⟨i+1,0,0⟩ (s,⟨i+1+(pw n r).length,0,0⟩):=by
   by_cases h0:F=[]
   ·rw[if_pos h0] at hws
    subst hws
    exact qY hp a3 (gY a6 rfl)
   ·rw[if_neg h0] at hws
    subst hws
    exact GK hp a3 (Fg a5.2.1 rfl)
  have hl:(F'.length:Int)=(F.length:Int):=by have:=congrArg List.length h1;simp at this;omega
  have h5:Ev (fun n=>loop (rC t (gG t n 1)) n F') ⟨i+1+(pw n r).length+ws.length+1,0,0⟩ (F'++G',⟨i+([109,97,107,101]::(pw n r++(ws++([123]::(aS [44] Ug++[[125]]))))).length,0,0⟩):=Ev.to h4.ev (by simp only[List.length_cons,List.length_append,List.length_nil];omega)
  refine⟨nd 44 (t.pos i) 0 (F'.length:Int) s (F'++G'),by rw[hl];exact bD (by simp[h1,h3]),tZ ?_⟩
  have main:Ev (fun n=>qx t (gG t n 0) (gG t n 1) n) ⟨i,0,0⟩ (nd 44 (t.pos i) 0 (F'.length:Int) s (F'++G'),⟨i+([109,97,107,101]::(pw n r++(ws++([123]::(aS [44] Ug++[[125]]))))).length,0,0⟩):=by
   show Ev (fun n=>bnd (dh t) (fun p=>seq (aM t ⟨#[109,97,107,101]⟩) (bnd (iq t n 2) (fun s=>bnd (ig t (gG t n 0) n) (fun w=>seq (aM t ⟨#[123]⟩) (bnd (loop (rC t (gG t n 1)) n w) (fun r=>ret (nd 44 p 0 (w.length:Int) s r)))))))) _ _
   exact evs
  unfold aX bO
  exact evs
end Go.Proofs.YtdplogkmkgekdaaGreatDoor.Bk
