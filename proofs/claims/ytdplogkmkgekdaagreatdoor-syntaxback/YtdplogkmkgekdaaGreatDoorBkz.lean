/- How many nodes an item, a module, a program has. -/
import Derived.Test.YtdplogkmkgekdaaGreatDoorBks
import Derived.Test.YtdplogkmkgekdaaGreatDoorBky
set_option linter.all false
set_option maxRecDepth 100000
set_option maxHeartbeats 4000000
namespace Go.Proofs.YtdplogkmkgekdaaGreatDoor.Bk
section
variable {t:Tk} {T B:GP (List Nr)} {fu:Nat}
theorem Q7 (hg:GT t) (hT:uq T) {p m:Int} (hm:m=0∨m=1∨m=2∨m=3) (i:Nat):wp (jS t T p m fu) (fun x _=>PI x) i:=by
 have sT:=hT.2
 unfold jS
 refine dF hg (fun _=>aA) fun s hs _=>av (BQ hg _) (fun _=>aA) fun g j hgn=>bM (aO aA fun _=>?_)
 refine av (R:=fun F _=>∀x∈F,VB x) (wp_loop (I:=fun F _=>∀x∈F,VB x) (fun _=>aA) ?_ fu _ _ (fun _ h=>by cases h)) (fun _=>aA) (fun F j2 hF=>wp_ret (Q6 hm hs hgn hF))
 intro o j2 ho
 refine fF (av (R:=fun b _=>True) (fun _ _ _ _=>trivial) (fun _=>aA) fun b j3 _=>wp_cond (fun _=>wp_ret ⟨(fun h=>by cases h),fun _=>ho⟩) (fun _=>bM ?_))
 refine av (R:=fun m _=>m=0∨m=1) (aZ (fun _=>wp_cond (fun _=>wp_ret (.inr rfl)) (fun _=>wp_ret (.inl rfl))) (fun _=>wp_cond (fun _=>wp_ret (.inr rfl)) (fun _=>wp_ret (.inl rfl)))) (fun _=>aA) fun fm j4 hfm=>?_
 refine dF hg (fun _=>aA) fun fs hfs _=>aO aA fun _=>av (hT.1 _) (fun _=>aA) fun y j5 hy=>?_
 exact bJ (wp_cond (fun _=>wp_ret ⟨fun _=>gy ho (nFd hfs hfm hy),(fun h=>by cases h)⟩) (fun _=>aO aA fun _=>wp_ret ⟨fun _=>gy ho (nFd hfs hfm hy),(fun h=>by cases h)⟩))
theorem YC (hg:GT t) (hT:uq T) {p m:Int} (hm:m=0∨m=1∨m=2∨m=3) (i:Nat):wp (lX t T p m fu) (fun x _=>PI x) i:=by
 have sT:=hT.2
 unfold lX
 refine dF hg (fun _=>aA) fun s hs _=>av (BQ hg _) (fun _=>aA) fun g j hgn=>aO aA fun _=>?_
 refine av (R:=fun r _=>∃F,r=g::F∧∀x∈F,VD x) (wp_loop (I:=fun r _=>∃F,r=g::F∧∀x∈F,VD x) (fun _=>aA) ?_ fu _ _ ⟨[],rfl,fun _ h=>by cases h⟩) (fun _=>aA) ?_
 ·rintro o j2 ⟨F,rfl,ho⟩
  refine fF (av (R:=fun b _=>True) (fun _ _ _ _=>trivial) (fun _=>aA) fun b j3 _=>wp_cond (fun _=>wp_ret ⟨(fun h=>by cases h),fun _=>⟨F,rfl,ho⟩⟩) (fun _=>bM ?_))
  refine dF hg (fun _=>aA) fun vs hvs _=>?_
  refine av (R:=fun ks _=>∀x∈ks,PT x) (bJ (wp_cond (fun _=>aO aA fun _=>bJ (av (R:=fun _ _=>True) (fun _ _ _ _=>trivial) (fun _=>aA) fun _ _ _=>uN hT.1 hT.2 _)) (fun _=>wp_ret (fun _ h=>by cases h)))) (fun _=>aA) fun ks j4 hks=>?_
  exact bJ (wp_cond (fun _=>wp_ret ⟨fun _=>⟨_,rfl,gy ho (nVr hvs hks)⟩,(fun h=>by cases h)⟩) (fun _=>aO aA fun _=>wp_ret ⟨fun _=>⟨_,rfl,gy ho (nVr hvs hks)⟩,(fun h=>by cases h)⟩))
 ·rintro r j2 ⟨F,rfl,hF⟩
  exact wp_ret (YA hm hs hgn hF)
theorem YD (hg:GT t) (hT:uq T) (hB:EF B) (i:Nat):wp (kg t T B fu) (fun x _=>PI x) i:=by
 have sT:=hT.2
 have sB:=hB.2
 unfold kg
 refine bM (aO aA fun _=>av (BQ hg _) (fun _=>aA) fun g j hgn=>av (nV hg (by decide) _) (fun _=>aA) ?_)
 rintro s j2 ⟨⟨n,r,hp⟩,-,-⟩
 refine aO aA fun _=>av (hT.1 _) (fun _=>aA) fun y j3 hy=>aO aA fun _=>?_
 refine av (R:=fun r _=>∃F,r=g::y::F∧∀x∈F,VA x) (wp_loop (I:=fun r _=>∃F,r=g::y::F∧∀x∈F,VA x) (fun _=>aA) ?_ fu _ _ ⟨[],rfl,fun _ h=>by cases h⟩) (fun _=>aA) ?_
 ·rintro o j2 ⟨F,rfl,ho⟩
  refine fF (av (R:=fun b _=>True) (fun _ _ _ _=>trivial) (fun _=>aA) fun b j3 _=>wp_cond (fun _=>wp_ret ⟨(fun h=>by cases h),fun _=>⟨F,rfl,ho⟩⟩) (fun _=>?_))
  refine av (FI hg hT _) (fun _=>aA) ?_
  rintro⟨p,s,L,k⟩ j4 ⟨g2,ps,y2,hh,rfl,rfl⟩
  exact av (hB.1 _) (fun _=>aA) fun z j5 hz=>wp_ret ⟨fun _=>⟨_,rfl,gy ho (nFi hh hz)⟩,(fun h=>by cases h)⟩
 ·rintro r j2 ⟨F,rfl,hF⟩
  exact wp_ret (YB hp hgn hy hF)
theorem YE (hg:GT t) (hT:uq T) (hB:EF B) (i:Nat):wp (eO t T B fu) (fun x _=>PI x) i:=by
 have sT:=hT.2
 have sB:=hB.2
 unfold eO
 refine bM (bJ (wp_cond (fun _=>YD hg hT hB _) (fun _=>?_)))
 refine av (R:=fun m _=>m=0∨m=1) (aZ (fun _=>wp_cond (fun _=>wp_ret (.inr rfl)) (fun _=>wp_ret (.inl rfl))) (fun _=>wp_cond (fun _=>wp_ret (.inr rfl)) (fun _=>wp_ret (.inl rfl)))) (fun _=>aA) fun m1 j hm1=>?_
 refine bJ (bJ (bJ ?_))
 refine av (R:=fun m j2=>(m=0∨m=1)∨((m=2∨m=3)∧(au t j2 0 0 ⟨#[115,116,114,117,99,116]⟩=true∨au t j2 0 0 ⟨#[101,110,117,109]⟩=true))) (wp_cond (fun hc=>fq (wp_ret (.inr ?_))) (fun _=>wp_ret (.inl hm1))) (fun _=>aA) fun m j2 hm=>?_
 ·rw[Bool.and_eq_true,Bool.or_eq_true] at hc
  refine⟨by omega,hc.2⟩
 have GX:m=0∨m=1∨m=2∨m=3:=by omega
 refine aZ (fun _=>wp_cond (fun _=>Q7 hg hT GX _) (fun h=>by cases h)) (fun n1=>wp_cond (fun h=>by cases h) (fun _=>?_))
 refine aZ (fun _=>wp_cond (fun _=>YC hg hT GX _) (fun h=>by cases h)) (fun n2=>wp_cond (fun h=>by cases h) (fun _=>?_))
 have hm2:m=0∨m=1:=by
  rcases hm with h|⟨-,h|h⟩
  ·exact h
  ·rw[n1] at h;cases h
  ·rw[n2] at h;cases h
 refine aZ (fun _=>wp_cond (fun _=>dF hg (fun _=>aA) fun s hs _=>aO aA fun _=>?_) (fun h=>by cases h)) (fun n2=>wp_cond (fun h=>by cases h) (fun _=>?_))
 ·refine av (R:=fun F _=>∀x∈F,QZ x) (wp_loop (I:=fun F _=>∀x∈F,QZ x) (fun _=>aA) ?_ fu _ _ (fun _ h=>by cases h)) (fun _=>aA) (fun F j2 hF=>wp_ret (TB hm2 hs hF))
  intro o j2 ho
  refine fF (av (R:=fun b _=>True) (fun _ _ _ _=>trivial) (fun _=>aA) fun b j3 _=>wp_cond (fun _=>wp_ret ⟨(fun h=>by cases h),fun _=>ho⟩) (fun _=>?_))
  refine av (R:=fun y _=>QZ y) (av (FI hg hT _) (fun _=>aA) ?_) (fun _=>aA) fun y j4 hy=>aO aA fun _=>wp_ret ⟨fun _=>gy ho hy,(fun h=>by cases h)⟩
  rintro⟨p,s,L,k⟩ j4 ⟨g2,ps,y2,hh,rfl,rfl⟩
  exact wp_ret (nMt hh)
 ·refine av (FI hg hT _) (fun _=>aA) ?_
  rintro⟨p,s,L,k⟩ j4 ⟨g2,ps,y2,hh,rfl,rfl⟩
  exact av (hB.1 _) (fun _=>aA) fun z j5 hz=>wp_ret (VF hm2 hh hz)
end
def r9 (t:Tk):GP (List Nr):=bnd (dh t) (fun q=>seq (aM t ⟨#[117,115,101]⟩) (bnd (bG t) (fun s1=>seq (aM t ⟨#[58,58]⟩) (bnd (bG t) (fun s2=>seq (aM t ⟨#[59]⟩) (ret (nd 2 q 0 0 (s1++⟨#[58,58]⟩++s2) [])))))))
abbrev mUs:Tk→Nat→GP (List Nr):=fun t _=>r9 t
def PU (x:List Nr):Prop:=∃K us,Bm mUs [[117,115,101]] (fun z=>z=2) x K us []
theorem nU {p:Int} {s1 s2:ByteArray} (h1:nI s1) (h2:nI s2):PU (nd 2 p 0 0 (s1++⟨#[58,58]⟩++s2) []):=by
 have hp:qD 2 (s1++⟨#[58,58]⟩++s2) s1 [s2]:=⟨rfl,h1,fun x hx=>by rw[List.mem_singleton.1 hx];exact h2,Nat.le_refl 2⟩
 have hg:Gr 2 0 0 (s1++⟨#[58,58]⟩++s2) (([]:List (List Nr)).map bA):=by
  constructor<;>intro e<;>first|exact absurd e (by decide)|exact⟨rfl,hp.path⟩
 refine⟨_,[117,115,101]::(pw s1 [s2]++[[59]]),Pt.nd (Ks:=[]) trivial hg,?_,aV rfl (bE hp.ok (by decide)),⟨_,_,rfl,rfl⟩,?_,by rw[dA];simp[lab]⟩
 ·show glue _=glue ([117,115,101]::jQ (s1++⟨#[58,58]⟩++s2).data.toList::[[59]])
  rw[aQ,hp.glue]
  simp only[aQ]
 ·rintro t i hat -
  obtain⟨a1,a2,a3,a4,a5,-⟩:At t i ([117,115,101]::s1.data.toList::[58,58]::s2.data.toList::[[59]]):=hat
  refine⟨nd 2 (t.pos i) 0 0 (s1++⟨#[58,58]⟩++s2) [],bD rfl,?_⟩
  show Ev (fun _=>r9 t) _ _
  unfold r9
  exact Ev.ak bL (Ev.seq (bP (fD a1 rfl)) (Ev.ak (sW h1 a2) (Ev.seq (bP (fD a3 rfl)) (Ev.ak (sW h2 a4) (Ev.seq (bP (fD a5 rfl)) Ev.ret')))))
structure Kl (t:Tk) (X:Nat→GP (List Nr)) (L:List Wd) (B:Nat→List (List Nr)→GP (Bool × List (List Nr))):Prop where
 step:∀{o:List (List Nr)} {i j:Nat} {y:List Nr},cu t i L []→Ev X ⟨i,0,0⟩ (y,⟨j,0,0⟩)→Ev (fun n=>B n o) ⟨i,0,0⟩ ((true,o++[y]),⟨j,0,0⟩)
theorem Kl.run {t:Tk} {m:Tk→Nat→GP (List Nr)} {L:List Wd} {B:Nat→List (List Nr)→GP (Bool × List (List Nr))} (hB:Kl t (m t) L B):∀{F:List (List Nr)} {Us:List (List Wd)},Zip (fun x us=>qC m Ez x us∧∃u r,us=u::r∧(L.contains u||([]:List Nat).contains (wk u))=true) F Us→∀(i:Nat) (o:List (List Nr)),At t i Us.flatten→(∀o,Ev (fun n=>B n o) ⟨i+Us.flatten.length,0,0⟩ ((false,o),⟨i+Us.flatten.length,0,0⟩))→∃F',F'.map er=F.map er∧EvL B o ⟨i,0,0⟩ (o++F',⟨i+Us.flatten.length,0,0⟩)
 |[],[],_,i,o,hat,hs=>⟨[],rfl,by
  rw[List.append_nil]
  exact EvL.stop (hs o)⟩
 |x::F,u::Us,hz,i,o,hat,hs=>by
  rw[List.flatten_cons] at hat
  obtain⟨a1,a2⟩:=hat.app
  obtain⟨x',h1,h2⟩:=hz.1.1 t i a1 trivial
  have e2:i+(u::Us).flatten.length=i+u.length+Us.flatten.length:=by rw[List.flatten_cons,List.length_append];omega
  rw[e2] at hs⊢
  obtain⟨F',h3,h4⟩:=Kl.run hB hz.2 (i+u.length) (o++[x']) a2 hs
  refine⟨x'::F',by rw[List.map_cons,List.map_cons,h1,h3],?_⟩
  rw[List.append_assoc] at h4
  exact EvL.on (hB.step (a1.head hz.1.2) h2) h4
 |[],_::_,hz,_,_,_,_=>hz.elim
 |_::_,[],hz,_,_,_,_=>hz.elim
theorem aeB {t:Tk}:Kl t (mUs t) [[117,115,101]] (fun _=>fO t):=by
 have e:∀o,fO t o=bnd (gN) (fun b0=>bnd (bY t 0 ⟨#[117,115,101]⟩) (fun b1=>cond (b0&&b1) (bnd (r9 t) (fun y=>ret (true,o++[y]))) (ret (false,o)))):=by
  intro o
  unfold fO r9
  simp only[yR,Bd,EJ]
 refine⟨fun{o i j y} hc h=>?_⟩
 have k1:au t i 0 0 ⟨#[117,115,101]⟩=true:=by
  obtain⟨u,h1,h2⟩:=hc
  have:u=[117,115,101]:=by simpa using h2
  subst this
  exact fD h1 rfl
 have h':Ev (fun _=>r9 t) ⟨i,0,0⟩ (y,⟨j,0,0⟩):=h
 simp only[e]
 exact Ev.ak bT (Ev.ak aI (Ev.yes (dR rfl k1) (Ev.ak h' Ev.ret')))
theorem aeC {t:Tk} {T B X:Nat→GP (List Nr)} (hX:X=fun n=>eO t (T n) (B n) n):zR t X ⟨#[125]⟩ (fun n=>fV t (T n) (B n) n):=by
 subst hX
 exact⟨fun h=>by unfold fV;exact evs,fun h1 h2=>by unfold fV;exact evs⟩
abbrev mMo:Tk→Nat→GP (List Nr):=fun t n=>je t (gG t n 0) (gG t n 3) n
def Q8 (x:List Nr):Prop:=∃K us,Bm mMo [[109,111,100]] (fun z=>z=1) x K us []
theorem nMo {p:Int} {s:ByteArray} {A F:List (List Nr)} (hs:nI s) (hA:∀x∈A,PU x) (hF:∀x∈F,PI x):Q8 (nd 1 p 0 0 s (A++F)):=by
 obtain⟨Ka,Ua,la⟩:=yS hA
 obtain⟨Ks,Us,l⟩:=yS hF
 have hg:Gr 1 0 0 s ((A++F).map bA):=by
  have h9:∀x∈(A++F).map bA,x=2∨x=3∨x=6∨x=7∨x=108∨x=208:=fun x hx=>by
   rw[List.map_append] at hx
   rcases List.mem_append.1 hx with hx|hx
   ·exact .inl (la.lb x hx)
   ·exact .inr (l.lb x hx)
  constructor<;>intro e<;>first|exact absurd e (by decide)|exact h9
 refine⟨_,[109,111,100]::s.data.toList::[123]::(Ua.flatten++(Us.flatten++[[125]])),Pt.nd (la.pt.app l.pt) hg,?_,aV rfl (aV hs.2 (aV rfl (bE (AZ la.ok) (bE (AZ l.ok) (by decide))))),⟨_,_,rfl,rfl⟩,?_,by rw[dA];simp[lab]⟩
 ·show glue _=glue (([109,111,100]::s.data.toList::[123]::(bB (Ka++Ks)++[[125]]))++[])
  have h1:=la.gl
  have h2:=l.gl
  rw[Dy] at h1 h2
  have h3:bB (Ka++Ks)=bB Ka++bB Ks:=by unfold bB;rw[List.map_append,List.flatten_append]
  simp only[List.append_nil,aQ,aN,h1,h2,h3,List.append_assoc]
 ·rintro t i ⟨a1,a2,a3,a4⟩ -
  obtain⟨a5,a6⟩:=a4.app
  have c1:cu t (i+1+1+1+Ua.flatten.length) ([125]::LI) []:=by
   have hz:=l.rd
   cases F with
   |nil=>
    cases Us with
    |nil=>exact⟨_,a6.1,.inl rfl⟩
    |cons _ _=>exact hz.elim
   |cons x F2=>
    cases Us with
    |nil=>exact hz.elim
    |cons u U2=>
     obtain⟨v,r,rfl,h2⟩:=hz.1.2
     refine⟨v,a6.1,.inl ?_⟩
     have h3:LI.contains v=true:=by simpa using h2
     rw[List.contains_cons,h3,Bool.or_true]
  have k2:au t (i+1+1+1+Ua.flatten.length) 0 0 ⟨#[117,115,101]⟩=false:=bQ c1 rfl
  obtain⟨A',h1,h2⟩:=Kl.run aeB la.rd (i+1+1+1) [] a5 (fun o=>by unfold fO;exact Ev.ak bT (Ev.ak aI (Ev.no (jf k2) Ev.ret')))
  obtain⟨F',h3,h4⟩:=zR.run (m:=mIt) (e:=[125]) (aeC (T:=fun n=>gG t n 0) (B:=fun n=>gG t n 3) rfl) rfl (fun j h=>bQ h rfl) l.rd _ A' a6
  have h2':Ev (fun n=>loop (fO t) n []) _ (A',_):=h2.ev
  have h4':Ev (fun n=>loop (fV t (gG t n 0) (gG t n 3) n) n A') _ (A'++F',_):=h4.ev
  refine⟨nd 1 (t.pos i) 0 0 s (A'++F'),bD (by simp[h1,h3]),?_⟩
  show Ev (fun n=>bnd (dh t) (fun p=>seq (aM t ⟨#[109,111,100]⟩) (bnd (bG t) (fun s=>seq (aM t ⟨#[123]⟩) (bnd (loop (fO t) n []) (fun us=>bnd (loop (fV t (gG t n 0) (gG t n 3) n) n us) (fun r=>ret (nd 1 p 0 0 s r)))))))) _ _
  refine Ev.to ?_ (j:=i+1+1+1+Ua.flatten.length+Us.flatten.length+1) (by simp only[List.length_cons,List.length_append,List.length_nil];omega)
  exact evs
section
variable {t:Tk} {T B:GP (List Nr)} {fu:Nat}
theorem acB (hg:GT t) (hT:uq T) (hB:EF B) (i:Nat):wp (je t T B fu) (fun x _=>Q8 x) i:=by
 have sT:=hT.2
 have sB:=hB.2
 unfold je
 refine bM (aO aA fun _=>dF hg (fun _=>aA) fun s hs _=>aO aA fun _=>?_)
 refine av (R:=fun F _=>∀x∈F,PU x) (wp_loop (I:=fun F _=>∀x∈F,PU x) (fun _=>aA) ?_ fu _ _ (fun _ h=>by cases h)) (fun _=>aA) ?_
 ·intro o j ho
  refine fF (bJ (wp_cond (fun _=>bM (aO aA fun _=>dF hg (fun _=>aA) fun s1 h1 _=>aO aA fun _=>dF hg (fun _=>aA) fun s2 h2 _=>aO aA fun _=>wp_ret ⟨fun _=>gy ho (nU h1 h2),(fun h=>by cases h)⟩)) (fun _=>wp_ret ⟨(fun h=>by cases h),fun _=>ho⟩)))
 ·intro A j hA
  refine av (R:=fun r _=>∃F,r=A++F∧∀x∈F,PI x) (wp_loop (I:=fun r _=>∃F,r=A++F∧∀x∈F,PI x) (fun _=>aA) ?_ fu _ _ ⟨[],by simp,fun _ h=>by cases h⟩) (fun _=>aA) ?_
  ·rintro o j2 ⟨F,rfl,ho⟩
   refine fF (av (R:=fun b _=>True) (fun _ _ _ _=>trivial) (fun _=>aA) fun b j3 _=>wp_cond (fun _=>wp_ret ⟨(fun h=>by cases h),fun _=>⟨F,rfl,ho⟩⟩) (fun _=>?_))
   exact av (YE hg hT hB _) (fun _=>aA) fun y j4 hy=>wp_ret ⟨fun _=>⟨_,List.append_assoc ..,gy ho hy⟩,(fun h=>by cases h)⟩
  ·rintro r j2 ⟨F,rfl,hF⟩
   exact wp_ret (nMo hs hA hF)
end
structure Km (x:List Nr) (K:Kd) (us:List Wd):Prop where
 pt:Pt x K
 gl:glue us=glue K.t
 ok:∀u∈us,okW u=true
 lb:bA x=0
 rd:∀t:Tk,At t 0 us→us.length<t.len→t.kind us.length=0→∃x',er x'=er x∧Ev (fun n=>lF t n) ⟨0,0,0⟩ (x',⟨us.length,0,0⟩)
theorem aeD {t:Tk}:Kl t (mMo t) [[109,111,100]] (fun n=>jK t n):=by
 refine⟨fun{o i j y} hc h=>?_⟩
 have k1:bf t i 0 0 0=false:=Fh hc rfl
 have h':Ev (fun n=>je t (gG t n 0) (gG t n 3) n) ⟨i,0,0⟩ (y,⟨j,0,0⟩):=h
 unfold jK
 exact Ev.ak bT (Ev.ak dz (Ev.yes (dR rfl (uR k1)) (Ev.ak h' Ev.ret')))
theorem nPr {p:Int} {F:List (List Nr)} (hF:∀x∈F,Q8 x):∃K us,Km (nd 0 p 0 0 E0 F) K us:=by
 obtain⟨Ks,Us,l⟩:=yS hF
 have hg:Gr 0 0 0 E0 (F.map bA):=by
  constructor<;>intro e<;>first|exact absurd e (by decide)|exact l.lb
 refine⟨_,Us.flatten,Pt.nd l.pt hg,?_,AZ l.ok,by rw[dA];simp[lab],?_⟩
 ·show glue _=glue (bB Ks)
  have h1:=l.gl
  rw[Dy] at h1
  exact h1
 ·intro t hat hl hk
  have k2:bf t (0+Us.flatten.length) 0 0 0=true:=by
   unfold bf
   simp only[Nat.zero_add,Nat.add_zero,hl,hk,decide_true]
   rfl
  obtain⟨F',h1,h2⟩:=Kl.run aeD l.rd 0 [] hat (fun o=>by unfold jK;exact Ev.ak bT (Ev.ak dz (Ev.no (jf (vT k2)) Ev.ret')))
  have h2':Ev (fun n=>loop (jK t n) n []) ⟨0,0,0⟩ (F',⟨Us.flatten.length,0,0⟩):=Ev.to h2.ev (by omega)
  refine⟨nd 0 (t.pos 0) 0 0 E0 F',bD h1,?_⟩
  show Ev (fun n=>bnd (dh t) (fun p=>bnd (loop (jK t n) n []) (fun r=>ret (nd 0 p 0 0 E0 r)))) _ _
  exact Ev.ak bL (Ev.ak h2' Ev.ret')
theorem Q9 {t:Tk} (hg:GT t) {fu:Nat} {r:List Nr × Rs} (h:lF t fu ⟨0,0,0⟩=some r) (hk:r.2.k=0):∃K us,Km r.1 K us:=by
 have key:wp (lF t fu) (fun x _=>∃K us,Km x K us) 0:=by
  unfold lF
  obtain⟨h0,-,-,h3,-⟩:=QU hg fu
  refine bM (av (R:=fun F _=>∀x∈F,Q8 x) (wp_loop (I:=fun F _=>∀x∈F,Q8 x) (fun _=>aA) ?_ fu _ _ (fun _ h=>by cases h)) (fun _=>aA) (fun F j hF=>wp_ret (nPr hF)))
  intro o j ho
  exact fF (jq (wp_cond (fun _=>av (acB hg h0 h3 _) (fun _=>aA) fun y j2 hy=>wp_ret ⟨fun _=>gy ho hy,(fun h=>by cases h)⟩) (fun _=>wp_ret ⟨(fun h=>by cases h),fun _=>ho⟩)))
 exact key 0 r h hk
section
variable {t:Tk} {T E B X:GP (List Nr)} {fu:Nat} {e:ByteArray}
theorem acC (hX:CX X) (i:Nat) (o:List (List Nr)):wp (qj t X e fu o) (fun F j=>F.flatten.length+F.length≤o.flatten.length+o.length+100*(j - i)∧i<j) i:=by
 have sX:=hX.2
 obtain⟨c,hc⟩:∃c,c=o.flatten.length+o.length:=⟨_,rfl⟩
 rw[←hc]
 have hs:∀o,Sy (gH t X e o):=fun _=>by unfold gH;exact aA
 show wp (loop (gH t X e) fu o) _ i
 refine wp_loop (I:=fun F j=>F.flatten.length+F.length≤c+100*(j - i)∧i≤j) hs ?_ fu o i ⟨Nat.le_trans (Nat.le_of_eq hc.symm) (Nat.le_add_right _ _),Nat.le_refl _⟩
 clear hc
 rintro x j ⟨h1,h2⟩
 unfold gH
 refine fF (wp_cond (fun _=>av (hX.1 j) (fun _=>aA) fun y j2 hy=>?_) (fun h=>by cases h))
 have key:(x++[y]).flatten.length+(x++[y]).length≤c+100*(j2+1 - i)∧i<j2+1:=by
  simp only[List.flatten_append,List.flatten_cons,List.flatten_nil,List.length_append,List.append_nil,List.length_cons,List.length_nil]
  omega
 exact aZ (fun _=>wp_cond (fun _=>wp_ret ⟨(fun h=>by cases h),fun _=>key⟩) (fun h=>by cases h)) (fun _=>wp_cond (fun h=>by cases h) (fun _=>aO aA (fun _=>wp_ret ⟨fun _=>⟨key.1,Nat.le_of_lt key.2⟩,(fun h=>by cases h)⟩)))
theorem YF (hX:CX X) (i:Nat):wp (fC t X e fu) (fun F j=>F.flatten.length+F.length≤100*(j - i)∧i<j) i:=by
 unfold fC
 refine aZ (fun _=>wp_cond (fun _=>wp_ret ⟨cnt,by omega⟩) (fun h=>by cases h)) (fun _=>wp_cond (fun h=>by cases h) (fun _=>(acC hX _ _).mono ?_))
 rintro F j ⟨h1,h2⟩
 simp only[List.flatten_nil,List.length_nil] at h1
 exact⟨by omega,h2⟩
theorem Kn {lives bd:Bool} (hg:GT t) (i:Nat):wp (cond bd (iM t lives fu) (ret [])) (fun F j=>F.flatten.length≤100*(j - i)∧i≤j) i:=by
 refine wp_cond (fun hb=>?_) (fun _=>wp_ret ⟨cnt,Nat.le_refl _⟩)
 unfold iM
 refine aZ (fun _=>wp_cond (fun _=>?_) (fun h=>by cases h)) (fun _=>wp_cond (fun h=>by cases h) (fun _=>wp_ret ⟨cnt,Nat.le_refl _⟩))
 have hs:∀o,Sy (gK t lives fu o):=fun _=>by unfold gK;exact aA
 show wp (loop (gK t lives fu) fu []) _ _
 refine(wp_loop (I:=fun F j=>cL (i+1) F j) (J:=fun F j=>cL (i+1) F j) hs ?_ fu _ _ ⟨cnt,Nat.le_refl _⟩).mono fun F j h=>⟨by omega,by omega⟩
 rintro o j ⟨h1,h2⟩
 unfold gK
 refine fF (wp_cond (fun _=>jq ?_) (fun h=>by cases h))
 refine av (R:=fun y j2=>y.length≤1∧j+1≤j2) (wp_cond (fun _=>?_) (fun h0=>?_)) (fun _=>aA) fun y j2 hy=>?_
 ·refine(yI hg j).mono ?_
  rintro x j2 ⟨⟨p,s,hs,rfl⟩,h3,-⟩
  exact⟨cnt,by omega⟩
 ·unfold kI
  refine bM (av (nV hg (by decide) _) (fun _=>aA) ?_)
  rintro s j2 ⟨-,h3,-⟩
  exact wp_ret ⟨cnt,h3⟩
 ·exact aZ (fun _=>wp_cond (fun _=>wp_ret ⟨fun _=>⟨cnt,by omega⟩,(fun h=>by cases h)⟩) (fun h=>by cases h)) (fun _=>wp_cond (fun h=>by cases h) (fun _=>wp_ret ⟨(fun h=>by cases h),fun _=>⟨cnt,by omega⟩⟩))
theorem EM {bd:Bool} (hg:GT t) (i:Nat):wp (iT t bd fu) (fun x j=>x.length≤1+100*(j - i)∧i≤j) i:=by
 unfold iT
 refine bM (aZ (fun h60=>wp_cond (fun _=>?_) (fun h=>by cases h)) (fun _=>wp_cond (fun h=>by cases h) (fun _=>wp_ret ⟨cnt,Nat.le_refl _⟩)))
 have hs:∀o,Sy (fU t bd fu o):=fun _=>by unfold fU;exact aA
 refine av (R:=fun x j=>cL (i+1) x.1 j) (show wp (loop (fU t bd fu) fu ([],false)) _ _ from wp_loop (I:=fun x j=>cL (i+1) x.1 j) hs ?_ fu _ _ ⟨cnt,Nat.le_refl _⟩) (fun _=>aA) (fun x j h=>wp_ret ⟨cnt,by omega⟩)
 rintro⟨o,f⟩ j ⟨h1,h2⟩
 have h1:o.flatten.length≤100*(j - (i+1)):=h1
 have h2:i+1≤j:=h2
 unfold fU
 refine fF (wp_cond (fun _=>bM (jq (wp_cond (fun hb=>?_) (fun hb=>?_)))) (fun h=>by cases h))
 ·refine av (zM hg _) (fun _=>aA) ?_
  rintro s j2 ⟨hs,rfl,hlt⟩
  refine av (Kn hg _) (fun _=>aA) fun ks j3 h3=>?_
  exact aZ (fun he=>wp_cond (fun _=>wp_ret ⟨(fun h=>by cases h),fun _=>⟨cnt,by omega⟩⟩) (fun h=>by cases h)) (fun _=>wp_cond (fun h=>by cases h) (fun _=>aO aA fun he=>wp_ret ⟨fun _=>⟨cnt,by omega⟩,(fun h=>by cases h)⟩))
 ·refine dF hg (fun _=>aA) fun s hs hlt=>?_
  refine av (Kn hg _) (fun _=>aA) fun ks j3 h3=>?_
  exact aZ (fun he=>wp_cond (fun _=>wp_ret ⟨(fun h=>by cases h),fun _=>⟨cnt,by omega⟩⟩) (fun h=>by cases h)) (fun _=>wp_cond (fun h=>by cases h) (fun _=>aO aA fun he=>wp_ret ⟨fun _=>⟨cnt,by omega⟩,(fun h=>by cases h)⟩))
theorem Ko {gen:Bool} (hg:GT t) (hT:CX T) (i:Nat):wp (fM t T gen fu) (fun h j=>h.2.2.1.flatten.length+10≤100*(j - i)) i:=by
 have sT:=hT.2
 unfold fM
 refine bM (aO aA fun _=>dF hg (fun _=>aA) fun s hs _=>bM ?_)
 refine av (R:=fun g j=>g.length≤1+100*(j - (i+1+1))∧i+1+1≤j) (wp_cond (fun h=>EM hg _) (fun h=>wp_ret ⟨cnt,Nat.le_refl _⟩)) (fun _=>aA) fun g j h1=>?_
 exact av (QW hg hT _) (fun _=>aA) fun ps j2 hps=>av (Oj hT _) (fun _=>aA) fun y j3 hy=>wp_ret cnt
theorem TD (hg:GT t) (hT:CX T) {p m:Int} (i:Nat):wp (jS t T p m fu) (fun x j=>x.length+5≤100*(j - i)) i:=by
 have sT:=hT.2
 unfold jS
 refine dF hg (fun _=>aA) fun s hs _=>av (EM hg _) (fun _=>aA) fun g j hgn=>bM (aO aA fun _=>?_)
 have hs:∀o,Sy (lK t T o):=fun _=>by unfold lK;exact aA
 refine av (R:=fun F j2=>cL (j+1) F j2) (show wp (loop (lK t T) fu []) _ _ from wp_loop (I:=fun F j2=>cL (j+1) F j2) hs ?_ fu _ _ ⟨cnt,Nat.le_refl _⟩) (fun _=>aA) (fun F j2 hF=>wp_ret cnt)
 rintro o j2 ⟨h1,h2⟩
 unfold lK
 refine fF (xJ (fun _=>aA) (wp_cond (fun _=>wp_ret ⟨(fun h=>by cases h),fun _=>⟨cnt,by omega⟩⟩) (fun h=>by cases h)) (wp_cond (fun h=>by cases h) (fun _=>bM ?_)))
 refine av (R:=fun _ j4=>j2≤j4) (aZ (fun _=>wp_cond (fun _=>wp_ret (by omega)) (fun h=>by cases h)) (fun _=>wp_cond (fun h=>by cases h) (fun _=>wp_ret (Nat.le_refl _)))) (fun _=>aA) fun fm j4 hfm=>?_
 refine dF hg (fun _=>aA) fun fs hfs _=>aO aA fun _=>av (hT.1 _) (fun _=>aA) fun y j5 hy=>?_
 exact bJ (wp_cond (fun _=>wp_ret ⟨fun _=>⟨cnt,by omega⟩,(fun h=>by cases h)⟩) (fun _=>aO aA fun _=>wp_ret ⟨fun _=>⟨cnt,by omega⟩,(fun h=>by cases h)⟩))
theorem YG (F:List (List Nr)):(F.map vQ).flatten.length=F.flatten.length+F.length:=by
 induction F with
 |nil=>rfl
 |cons x F ih=>
  have:(vQ x).length=1+x.length:=by unfold vQ;rw[yO];simp
  simp only[List.map_cons,List.flatten_cons,List.length_append,List.length_cons,ih,this]
  omega
theorem acD (hg:GT t) (hT:CX T) {p m:Int} (i:Nat):wp (lX t T p m fu) (fun x j=>x.length+5≤100*(j - i)) i:=by
 have sT:=hT.2
 unfold lX
 refine dF hg (fun _=>aA) fun s hs _=>av (EM hg _) (fun _=>aA) fun g j hgn=>aO aA fun _=>?_
 have hs:∀o,Sy (og t T fu o):=fun _=>by unfold og;exact aA
 refine av (R:=fun F j2=>F.flatten.length≤g.length+100*(j2 - (j+1))∧j+1≤j2) (show wp (loop (og t T fu) fu [g]) _ _ from wp_loop (I:=fun F j2=>F.flatten.length≤g.length+100*(j2 - (j+1))∧j+1≤j2) hs ?_ fu _ _ ⟨cnt,Nat.le_refl _⟩) (fun _=>aA) (fun F j2 hF=>wp_ret cnt)
 rintro o j2 ⟨h1,h2⟩
 unfold og
 refine fF (xJ (fun _=>aA) (wp_cond (fun _=>wp_ret ⟨(fun h=>by cases h),fun _=>⟨cnt,by omega⟩⟩) (fun h=>by cases h)) (wp_cond (fun h=>by cases h) (fun _=>bM ?_)))
 refine dF hg (fun _=>aA) fun vs hvs _=>?_
 refine av (R:=fun ks j4=>ks.flatten.length+ks.length≤100*(j4 - (j2+1))∧j2+1≤j4) (bJ (wp_cond (fun _=>aO aA fun _=>bJ (av (R:=fun _ j3=>j2+1+1≤j3) (wp_cond (fun _=>fun a r h1 h2=>by
  obtain rfl:((),(⟨j2+1+1,4,t.pos (j2+1+1)⟩:Rs))=r:=by simpa[jB] using h1
  exact Nat.le_refl _) (fun _=>wp_ret (Nat.le_refl _))) (fun _=>aA) fun _ j3 h3=>(YF hT _).mono fun F j4 h4=>⟨by omega,by omega⟩)) (fun _=>wp_ret ⟨cnt,Nat.le_refl _⟩))) (fun _=>aA) fun ks j4 hks=>?_
 have h5:=YG ks
 have key:(o++[nd 4 (t.pos j2) 0 0 vs (ks.map vQ)]).flatten.length≤g.length+100*(j4 - (j+1)):=by
  simp only[List.flatten_append,List.flatten_cons,List.flatten_nil,List.length_append,List.append_nil,yO,h5]
  omega
 exact bJ (wp_cond (fun _=>wp_ret ⟨fun _=>⟨key,by omega⟩,(fun h=>by cases h)⟩) (fun _=>aO aA fun _=>wp_ret ⟨fun _=>⟨Nat.le_trans key (by omega),by omega⟩,(fun h=>by cases h)⟩))
theorem acE (hg:GT t) (hT:CX T) (hB:CX B) (i:Nat):wp (kg t T B fu) (fun x j=>x.length+5≤100*(j - i)) i:=by
 have sT:=hT.2
 have sB:=hB.2
 unfold kg
 refine bM (aO aA fun _=>av (EM hg _) (fun _=>aA) fun g j hgn=>av (nV hg (by decide) _) (fun _=>aA) ?_)
 rintro s j2 ⟨-,h0,-⟩
 refine aO aA fun _=>av (hT.1 _) (fun _=>aA) fun y j3 hy=>aO aA fun _=>?_
 have hs:∀o,Sy (jJ t T B fu o):=fun _=>by unfold jJ;exact aA
 refine av (R:=fun F j2=>F.flatten.length≤g.length+y.length+100*(j2 - (j3+1))∧j3+1≤j2) (show wp (loop (jJ t T B fu) fu [g,y]) _ _ from wp_loop (I:=fun F j2=>F.flatten.length≤g.length+y.length+100*(j2 - (j3+1))∧j3+1≤j2) hs ?_ fu _ _ ⟨cnt,Nat.le_refl _⟩) (fun _=>aA) (fun F j4 hF=>wp_ret cnt)
 rintro o j4 ⟨h1,h2⟩
 unfold jJ
 refine fF (xJ (fun _=>aA) (wp_cond (fun _=>wp_ret ⟨(fun h=>by cases h),fun _=>⟨cnt,by omega⟩⟩) (fun h=>by cases h)) (wp_cond (fun h=>by cases h) (fun _=>?_)))
 exact av (Ko hg hT _) (fun _=>aA) fun h j5 h5=>av (hB.1 _) (fun _=>aA) fun z j6 hz=>wp_ret ⟨fun _=>⟨cnt,by omega⟩,(fun h=>by cases h)⟩
theorem acF (hg:GT t) (hT:CX T) (hB:CX B) (i:Nat):wp (eO t T B fu) (fun x j=>x.length+5≤100*(j - i)) i:=by
 have sT:=hT.2
 have sB:=hB.2
 unfold eO
 refine bM (bJ (wp_cond (fun _=>acE hg hT hB _) (fun _=>?_)))
 refine av (R:=fun m j=>i≤j) (aZ (fun _=>wp_cond (fun _=>wp_ret (by omega)) (fun h=>by cases h)) (fun _=>wp_cond (fun h=>by cases h) (fun _=>wp_ret (Nat.le_refl _)))) (fun _=>aA) fun m1 j hm1=>?_
 refine bJ (bJ (bJ ?_))
 refine av (R:=fun m j2=>i≤j2) (wp_cond (fun hc=>fq (wp_ret (by omega))) (fun _=>wp_ret hm1)) (fun _=>aA) fun m j2 hm=>?_
 refine aZ (fun _=>wp_cond (fun _=>(TD hg hT _).mono fun x j h=>by omega) (fun h=>by cases h)) (fun n1=>wp_cond (fun h=>by cases h) (fun _=>?_))
 refine aZ (fun _=>wp_cond (fun _=>(acD hg hT _).mono fun x j h=>by omega) (fun h=>by cases h)) (fun n2=>wp_cond (fun h=>by cases h) (fun _=>?_))
 refine aZ (fun _=>wp_cond (fun _=>dF hg (fun _=>aA) fun s hs _=>aO aA fun _=>?_) (fun h=>by cases h)) (fun n2=>wp_cond (fun h=>by cases h) (fun _=>?_))
 ·have hs:∀o,Sy (iP t T fu o):=fun _=>by unfold iP;exact aA
  refine av (R:=fun F j3=>cL (j2+1+1+1) F j3) (show wp (loop (iP t T fu) fu []) _ _ from wp_loop (I:=fun F j3=>cL (j2+1+1+1) F j3) hs ?_ fu _ _ ⟨cnt,Nat.le_refl _⟩) (fun _=>aA) (fun F j2 hF=>wp_ret cnt)
  rintro o j3 ⟨h1,h2⟩
  unfold iP
  refine fF (xJ (fun _=>aA) (wp_cond (fun _=>wp_ret ⟨(fun h=>by cases h),fun _=>⟨cnt,by omega⟩⟩) (fun h=>by cases h)) (wp_cond (fun h=>by cases h) (fun _=>?_)))
  exact av (R:=fun y j4=>y.length+5≤100*(j4 - j3)) (av (Ko hg hT _) (fun _=>aA) fun h j4 h4=>wp_ret cnt) (fun _=>aA) fun y j4 hy=>aO aA fun _=>wp_ret ⟨fun _=>⟨cnt,by omega⟩,(fun h=>by cases h)⟩
 ·exact av (Ko hg hT _) (fun _=>aA) fun h j4 h4=>av (hB.1 _) (fun _=>aA) fun z j5 hz=>wp_ret cnt
theorem aeE (hg:GT t) (hT:CX T) (hB:CX B) (i:Nat):wp (je t T B fu) (fun x j=>x.length+5≤100*(j - i)) i:=by
 have sT:=hT.2
 have sB:=hB.2
 unfold je
 refine bM (aO aA fun _=>dF hg (fun _=>aA) fun s hs _=>aO aA fun _=>?_)
 have s1:∀o,Sy (fO t o):=fun _=>by unfold fO;exact aA
 have s2:∀o,Sy (fV t T B fu o):=fun _=>by unfold fV;exact aA
 refine av (R:=fun F j=>cL (i+1+1+1) F j) (show wp (loop (fO t) fu []) _ _ from wp_loop (I:=fun F j=>cL (i+1+1+1) F j) s1 ?_ fu _ _ ⟨cnt,Nat.le_refl _⟩) (fun _=>aA) ?_
 ·rintro o j ⟨h1,h2⟩
  unfold fO
  exact fF (bJ (wp_cond (fun _=>bM (aO aA fun _=>dF hg (fun _=>aA) fun s1 h1 _=>aO aA fun _=>dF hg (fun _=>aA) fun s2 h2 _=>aO aA fun _=>wp_ret ⟨fun _=>⟨cnt,by omega⟩,(fun h=>by cases h)⟩)) (fun _=>wp_ret ⟨(fun h=>by cases h),fun _=>⟨cnt,by omega⟩⟩)))
 ·rintro A j ⟨h1,h2⟩
  refine av (R:=fun F j=>cL (i+1+1+1) F j) (show wp (loop (fV t T B fu) fu A) _ _ from wp_loop (I:=fun F j=>cL (i+1+1+1) F j) s2 ?_ fu _ _ ⟨h1,h2⟩) (fun _=>aA) (fun F j2 hF=>wp_ret cnt)
  rintro o j2 ⟨h3,h4⟩
  unfold fV
  refine fF (xJ (fun _=>aA) (wp_cond (fun _=>wp_ret ⟨(fun h=>by cases h),fun _=>⟨cnt,by omega⟩⟩) (fun h=>by cases h)) (wp_cond (fun h=>by cases h) (fun _=>?_)))
  exact av (acF hg hT hB _) (fun _=>aA) fun y j4 hy=>wp_ret ⟨fun _=>⟨cnt,by omega⟩,(fun h=>by cases h)⟩
theorem TF (hg:GT t) {r:List Nr × Rs} (h:lF t fu ⟨0,0,0⟩=some r) (hk:r.2.k=0):r.1.length≤600101:=by
 have key:wp (lF t fu) (fun x _=>x.length≤600101) 0:=by
  unfold lF
  obtain⟨h0,-,-,h3,-⟩:=Vu hg fu
  have s1:∀o,Sy (jK t fu o):=fun _=>by unfold jK;exact aA
  refine bM (av (R:=fun F j=>cL 0 F j∧j<t.len) (show wp (loop (jK t fu) fu []) _ _ from wp_loop (I:=fun F j=>cL 0 F j) s1 ?_ fu _ _ ⟨cnt,Nat.le_refl _⟩) (fun _=>aA) (fun F j hF=>wp_ret ?_))
  ·rintro o j ⟨h1,h2⟩
   unfold jK
   refine fF (jq (wp_cond (fun _=>av (aeE hg h0 h3 _) (fun _=>aA) fun y j2 hy=>wp_ret ⟨fun _=>⟨cnt,by omega⟩,(fun h=>by cases h)⟩) (fun hb=>wp_ret ⟨(fun h=>by cases h),fun _=>⟨⟨h1,h2⟩,?_⟩⟩)))
   have:bf t j 0 0 0=true:=by
    cases hq:bf t j 0 0 0
    ·rw[hq] at hb;cases hb
    ·rfl
   exact zH this
  ·have:=hg.few
   have h2:=hF.1.1
   have h3:=hF.2
   simp only[yO]
   omega
 exact key 0 r h hk
end
end Go.Proofs.YtdplogkmkgekdaaGreatDoor.Bk
