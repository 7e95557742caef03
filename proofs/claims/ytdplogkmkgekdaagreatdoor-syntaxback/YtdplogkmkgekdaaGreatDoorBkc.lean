/- Parse of print: what is read is printed so that it is read back. -/
import Derived.Test.YtdplogkmkgekdaaGreatDoorFPath
import Derived.Test.YtdplogkmkgekdaaGreatDoorPkd
set_option linter.all false
set_option maxRecDepth 100000
set_option maxHeartbeats 4000000
namespace Go.Proofs.YtdplogkmkgekdaaGreatDoor.Bk
abbrev Wd:=List UInt8
def wN (c:UInt8):Bool:=decide (48≤c.toNat∧c.toNat≤57)
def Ac (c:UInt8):Bool:=decide (97≤c.toNat∧c.toNat≤122∨65≤c.toNat∧c.toNat≤90)
def Es (c:UInt8):Bool:=Ac c||wN c||c==95
def yF:List Wd:=[[109,111,100],[117,115,101],[112,117,98],[99,111,112,121],[115,116,114,117,99,116],[101,110,117,109],[116,114,97,105,116],[105,109,112,108],[102,111,114],[102,110],[108,101,116],[109,117,116],[105,102],[101,108,115,101],[109,97,116,99,104],[119,104,105,108,101],[108,111,111,112],[98,114,101,97,107],[110,101,120,116],[114,101,116,117,114,110],[112,97,110,105,99],[109,97,107,101],[114,101,102],[111,110,99,101],[115,112,97,119,110],[116,114,117,101],[102,97,108,115,101],[105,110,116],[98,111,111,108]]
def JD:List Wd:=[[58,58],[45,62],[61,62],[61,61],[33,61],[60,61],[62,61],[38,38],[124,124],[40],[41],[123],[125],[91],[93],[60],[62],[44],[59],[58],[46],[61],[43],[45],[42],[47],[37],[38],[33],[95]]
def wk (u:Wd):Nat:=match u with
 |[]=>5
 |c::_=>if wN c then 1 else if Ac c then(if yF.contains u then 3 else 2) else if c==39 then 4 else 5
def qJ (u:Wd):Nat:=u.foldl (fun v c=>v*10+(c.toNat - 48)) 0
def okW (u:Wd):Bool:=match u with
 |[]=>false
 |c::r=>if wN c then u.all wN&&decide (qJ u≤9223372036854775807) else if Ac c then u.all Es&&(yF.contains u||decide (u.length≤20)) else if c==39 then(match r with
  |[]=>false
  |d::_=>Ac d)&&r.all Es&&decide (u.length≤21) else JD.contains u
structure dI (t:Tk) (i:Nat) (u:Wd):Prop where
 lt:i<t.len
 kd:t.kind i=wk u
 tx:wk u≠1→t.text i=⟨u.toArray⟩
 nu:wk u=1→t.num i=qJ u
def At (t:Tk) (i:Nat):List Wd→Prop
 |[]=>True
 |u::us=>dI t i u∧At t (i+1) us
theorem At.app {t:Tk}:∀{us vs:List Wd} {i:Nat},At t i (us++vs)→At t i us∧At t (i+us.length) vs
 |[],_,_,h=>⟨trivial,h⟩
 |u::us,vs,i,h=>by
  have:=At.app (us:=us) h.2
  refine⟨⟨h.1,this.1⟩,?_⟩
  have e:i+(u::us).length=i+1+us.length:=by simp only[List.length_cons];omega
  rw[e]
  exact this.2
def lT (u:Wd) (W:ByteArray):Bool:=(wk u==5||wk u==3)&&(u==W.data.toList)
section
variable {t:Tk} {i:Nat} {u:Wd} {W:ByteArray} {q:Int} {L:List Wd} {N:List Nat}
theorem wO (h:dI t i u):au t i 0 0 W=lT u W:=by
 unfold au lT
 simp only[Nat.add_zero,h.lt,h.kd,decide_true,Bool.true_and,beq_self_eq_true,Lib.toList_data]
 by_cases e:wk u=1
 ·simp[e]
 ·rw[h.tx e]
theorem kE (h:dI t i u):bf t i 0 0 q=((wk u:Int)==q):=by
 unfold bf
 simp only[Nat.add_zero,h.lt,h.kd,decide_true,Bool.true_and,beq_self_eq_true]
theorem fD (h:dI t i u) (e:lT u W=true):au t i 0 0 W=true:=(wO h).trans e
theorem gY (h:dI t i u) (e:lT u W=false):au t i 0 0 W=false:=(wO h).trans e
theorem Fg (h:dI t i u) (e:((wk u:Int)==q)=false):bf t i 0 0 q=false:=(kE h).trans e
def cu (t:Tk) (i:Nat) (L:List Wd) (N:List Nat):Prop:=∃u,dI t i u∧(L.contains u=true∨N.contains (wk u)=true)
theorem cu.of (h:dI t i u) (e:(L.contains u||N.contains (wk u))=true):cu t i L N:=⟨u,h,by simpa using e⟩
theorem bQ (h:cu t i L N) (e:(!(L.contains W.data.toList)&&N.all (fun q=>q !=5&&q !=3))=true):au t i 0 0 W=false:=by
 obtain⟨u,h1,h2⟩:=h
 rw[wO h1]
 simp only[Bool.and_eq_true,Bool.not_eq_true',List.all_eq_true,bne_iff_ne] at e
 unfold lT
 rcases h2 with h2|h2
 ·have:(u==W.data.toList)=false:=by
   rw[beq_eq_false_iff_ne]
   intro e2
   rw[e2,e.1] at h2
   cases h2
  rw[this,Bool.and_false]
 ·have h3:=e.2 (wk u) (by simpa using h2)
  have:(wk u==5||wk u==3)=false:=by simp[h3.1,h3.2]
  rw[this,Bool.false_and]
theorem Fh (h:cu t i L N) (e:(L.all (fun u=>(wk u:Int) !=q)&&N.all (fun p=>(p:Int) !=q))=true):bf t i 0 0 q=false:=by
 obtain⟨u,h1,h2⟩:=h
 rw[kE h1]
 simp only[Bool.and_eq_true,List.all_eq_true,bne_iff_ne] at e
 rw[beq_eq_false_iff_ne]
 rcases h2 with h2|h2
 ·exact e.1 u (by simpa using h2)
 ·exact e.2 (wk u) (by simpa using h2)
theorem cu.sub {L2:List Wd} {N2:List Nat} (h:cu t i L N) (e:(L.all (fun u=>L2.contains u||N2.contains (wk u))&&N.all (fun p=>N2.contains p))=true):cu t i L2 N2:=by
 obtain⟨u,h1,h2⟩:=h
 simp only[Bool.and_eq_true,List.all_eq_true] at e
 refine⟨u,h1,?_⟩
 rcases h2 with h2|h2
 ·have:=e.1 u (by simpa using h2)
  simpa using this
 ·exact .inr (e.2 _ (by simpa using h2))
theorem XV {k:Int}:bf t i k 1 q=bf t (i+1) k 0 q:=rfl
end
def er (x:List Nr):List (Int × Int × Int × ByteArray × Nat):=x.map (fun z=>(z.k,z.n,z.m,z.s,z.c))
theorem U9 {k p n m:Int} {s:ByteArray} {F:List (List Nr)}:er (nd k p n m s F)=(k,n,m,s,F.length)::(F.map er).flatten:=by
 unfold nd er
 rw[List.map_cons,List.map_flatten]
theorem bD {k p p' n m:Int} {s:ByteArray} {F F':List (List Nr)} (h:F.map er=F'.map er):er (nd k p n m s F)=er (nd k p' n m s F'):=by
 have hl:F.length=F'.length:=by have:=congrArg List.length h;simpa using this
 rw[U9,U9,h,hl]
def qC (m:Tk→Nat→GP (List Nr)) (Fo:Tk→Nat→Prop) (x:List Nr) (us:List Wd):Prop:=∀(t:Tk) (i:Nat),At t i us→Fo t (i+us.length)→∃x',er x'=er x∧Ev (m t) ⟨i,0,0⟩ (x',⟨i+us.length,0,0⟩)
def Zip {α β:Type} (R:α→β→Prop):List α→List β→Prop
 |[],[]=>True
 |a::l,b::r=>R a b∧Zip R l r
 |_,_=>False
theorem Zip.mono {α β:Type} {R R':α→β→Prop} (h:∀a b,R a b→R' a b):∀{l:List α} {r:List β},Zip R l r→Zip R' l r
 |[],[],_=>trivial
 |_::_,_::_,hz=>⟨h _ _ hz.1,Zip.mono h hz.2⟩
 |[],_::_,hz=>hz.elim
 |_::_,[],hz=>hz.elim
theorem Zip.len {α β:Type} {R:α→β→Prop}:∀{l:List α} {r:List β},Zip R l r→l.length=r.length
 |[],[],_=>rfl
 |_::l,_::r,hz=>by simp[Zip.len hz.2]
 |[],_::_,hz=>hz.elim
 |_::_,[],hz=>hz.elim
theorem Zip.app {α β:Type} {R:α→β→Prop}:∀{l l':List α} {r r':List β},Zip R l r→Zip R l' r'→Zip R (l++l') (r++r')
 |[],_,[],_,_,h=>h
 |_::l,_,_::r,_,hz,h=>⟨hz.1,Zip.app hz.2 h⟩
 |[],_,_::_,_,hz,_=>hz.elim
 |_::_,_,[],_,hz,_=>hz.elim
def bA (x:List Nr):Int:=match x with
 |[]=> -1
 |z::_=>lab z.k z.n z.m z.s z.c
def oJ:Nat→List Nr→Kd→Prop
 |0,_,_=>False
 |h+1,y,K=>∃(k p n m:Int) (s:ByteArray) (F:List (List Nr)) (Ks:List Kd),y=nd k p n m s F∧K=⟨k,F.length,asm k n m s.data.toList Ks⟩∧Zip (oJ h) F Ks∧Gr k n m s (F.map bA)
theorem oJ.up:∀{h:Nat} {y:List Nr} {K:Kd},oJ h y K→oJ (h+1) y K
 |0,_,_,h=>h.elim
 |_+1,_,_,⟨k,p,n,m,s,F,Ks,h1,h2,h3,h4⟩=>⟨k,p,n,m,s,F,Ks,h1,h2,h3.mono (fun _ _=>oJ.up),h4⟩
theorem oJ.le {h h':Nat} {y:List Nr} {K:Kd} (hp:oJ h y K) (hl:h≤h'):oJ h' y K:=by
 induction hl with
 |refl=>exact hp
 |step _ ih=>exact ih.up
def Pt (y:List Nr) (K:Kd):Prop:=∃h,oJ h y K
theorem Ml:∀{F:List (List Nr)} {Ks:List Kd},Zip Pt F Ks→∃h,Zip (oJ h) F Ks
 |[],[],_=>⟨0,trivial⟩
 |_::_,_::_,hz=>by
  obtain⟨h1,e1⟩:=hz.1
  obtain⟨h2,e2⟩:=Ml hz.2
  exact⟨max h1 h2,e1.le (Nat.le_max_left _ _),e2.mono (fun _ _ h=>h.le (Nat.le_max_right _ _))⟩
 |[],_::_,hz=>hz.elim
 |_::_,[],hz=>hz.elim
theorem Pt.nd {k p n m:Int} {s:ByteArray} {F:List (List Nr)} {Ks:List Kd} (h:Zip Pt F Ks) (hg:Gr k n m s (F.map bA)):Pt (nd k p n m s F) ⟨k,F.length,asm k n m s.data.toList Ks⟩:=by
 obtain⟨h1,e1⟩:=Ml h
 exact⟨h1+1,k,p,n,m,s,F,Ks,rfl,rfl,e1,hg⟩
def nI (s:ByteArray):Prop:=wk s.data.toList=2∧okW s.data.toList=true
def qp (s:ByteArray):Prop:=wk s.data.toList=4∧okW s.data.toList=true
structure GT (t:Tk):Prop where
 nm:∀j,t.kind j=2→nI (t.text j)
 lf:∀j,t.kind j=4→qp (t.text j)
 nu:∀j,t.num j≤9223372036854775807
 few:t.len≤6001
section
variable {α β σ:Type}
def wp (m:GP α) (Q:α→Nat→Prop) (i:Nat):Prop:=∀a r,m ⟨i,0,a⟩=some r→r.2.k=0→Q r.1 r.2.i
theorem wp.mono {m:GP α} {Q Q':α→Nat→Prop} {i:Nat} (h:wp m Q i) (hq:∀x j,Q x j→Q' x j):wp m Q' i:=fun a r h1 h2=>hq _ _ (h a r h1 h2)
theorem wp_ret {x:α} {Q:α→Nat→Prop} {i:Nat} (h:Q x i):wp (ret x) Q i:=fun a r h1 _=>by
 obtain rfl:(x,(⟨i,0,a⟩:Rs))=r:=by simpa[ret] using h1
 exact h
theorem qK {m:GP α} {f:α→GP β} {Q:β→Nat→Prop} {i j:Nat} {x:α} (e:∀a,m ⟨i,0,a⟩=some (x,⟨j,0,a⟩)) (h:wp (f x) Q j):wp (bnd m f) Q i:=fun a r h1 h2=>by
 unfold bnd at h1
 rw[e a] at h1
 exact h a r h1 h2
theorem av {m:GP α} {f:α→GP β} {R:α→Nat→Prop} {Q:β→Nat→Prop} {i:Nat} (hm:wp m R i) (hs:∀x,Sy (f x)) (h:∀x j,R x j→wp (f x) Q j):wp (bnd m f) Q i:=fun a r h1 h2=>by
 obtain⟨q,e1,e2⟩:=pK h1
 have h3:q.2.k=0:=by
  by_cases e:q.2.k=0
  ·exact e
  ·have:=(hs q.1 q.2 r e2).2 e
   omega
 have hq:=hm a q e1 h3
 obtain⟨y,⟨j,k,b⟩⟩:=q
 obtain rfl:k=0:=h3
 exact h y j hq b r e2 h2
theorem wp_cond {b:Bool} {x y:GP α} {Q:α→Nat→Prop} {i:Nat} (h1:b=true→wp x Q i) (h2:b=false→wp y Q i):wp (cond b x y) Q i:=by
 cases b
 ·exact h2 rfl
 ·exact h1 rfl
theorem wp_loop {B:σ→GP (Bool × σ)} {I J:σ→Nat→Prop} (hs:∀x,Sy (B x)) (h:∀x i,I x i→wp (B x) (fun r j=>(r.1=true→I r.2 j)∧(r.1=false→J r.2 j)) i):∀(n:Nat) (x:σ) (i:Nat),I x i→wp (loop B n x) J i
 |0,_,_,_=>fun _ _ h _=>by cases h
 |n+1,x,i,hi=>by
  refine av (h x i hi) (fun r=>Sy.cond (Sy.loop hs n r.2) Sy.ret) fun r j hr=>?_
  exact wp_cond (fun e=>wp_loop hs h n r.2 j (hr.1 e)) (fun e=>wp_ret (hr.2 e))
end
section
variable {t:Tk} {β:Type} {Q:β→Nat→Prop} {i d:Nat} {w:ByteArray} {q:Int}
theorem bJ {f:Bool→GP β} (h:wp (f (au t i 0 d w)) Q i):wp (bnd (bY t d w) f) Q i:=qK (fun _=>rfl) h
theorem jq {f:Bool→GP β} (h:wp (f (bf t i 0 d q)) Q i):wp (bnd (fB t d q) f) Q i:=qK (fun _=>rfl) h
theorem fF {f:Bool→GP β} (h:wp (f true) Q i):wp (bnd gN f) Q i:=qK (fun _=>rfl) h
theorem bM {f:Int→GP β} (h:wp (f (t.pos i:Int)) Q i):wp (bnd (dh t) f) Q i:=qK (fun _=>rfl) h
theorem Va {f:Int→GP β} (h:wp (f (t.kind i:Int)) Q i):wp (bnd (H9 t) f) Q i:=qK (fun _=>rfl) h
theorem BK {f:ByteArray→GP β} (h:wp (f (t.text i)) Q i):wp (bnd (zf t) f) Q i:=qK (fun _=>rfl) h
theorem vE {f:Int→GP β} (h:wp (f (t.num i:Int)) Q i):wp (bnd (qh t) f) Q i:=qK (fun _=>rfl) h
theorem fq {y:GP β} {n:Nat} (h:wp y Q (i+n)):wp (seq (dK n) y) Q i:=qK (x:=()) (fun _=>rfl) h
theorem wh {ss:List ByteArray} {f:ByteArray→GP β} (h:∀v,v.size=0∨(v∈ss∧au t i 0 0 v=true)→wp (f v) Q i):wp (bnd (nZ t ss) f) Q i:=by
 refine qK (x:=(ss.find? (fun w=>au t i 0 0 w)).getD E0) (fun _=>rfl) (h _ ?_)
 show((ss.find? (fun w=>au t i 0 0 w)).getD E0).size=0∨_
 cases e:ss.find? (fun w=>au t i 0 0 w) with
 |none=>exact .inl rfl
 |some v=>exact .inr ⟨List.mem_of_find?_eq_some e,by simpa using List.find?_some e⟩
theorem aZ {f:Bool→GP β} (h1:au t i 0 0 w=true→wp (f true) Q (i+1)) (h2:au t i 0 0 w=false→wp (f false) Q i):wp (bnd (aY t w) f) Q i:=by
 cases e:au t i 0 0 w
 ·exact qK (fun a=>by show(if au t i 0 0 w=true then _ else _)=_;rw[e];rfl) (h2 e)
 ·exact qK (fun a=>by show(if au t i 0 0 w=true then _ else _)=_;rw[e];rfl) (h1 e)
theorem qL {f:GP β} (hs:Sy f):wp (seq (jB t) f) Q i:=fun a r h1 h2=>by
 obtain⟨q,e1,e2⟩:=pK h1
 obtain rfl:((),(⟨i,4,t.pos i⟩:Rs))=q:=by simpa[jB] using e1
 have:=(hs _ _ e2).2 (show(4:Int)≠0 by decide)
 have h3:(r.2.k:Int)=4:=this.1
 omega
theorem SC:wp (aM t w) (fun _ j=>au t i 0 0 w=true∧j=i+1) i:=by
 unfold aM
 refine aZ (fun e=>wp_cond (fun _=>wp_ret ⟨e,rfl⟩) (fun h=>by cases h)) (fun e=>wp_cond (fun h=>by cases h) (fun _=>?_))
 intro a r h1 h2
 obtain rfl:((),(⟨i,4,t.pos i⟩:Rs))=r:=by simpa[jB] using h1
 exact absurd h2 (show ¬(4:Int)=0 by decide)
theorem aO {f:GP β} (hs:Sy f) (h:au t i 0 0 w=true→wp f Q (i+1)):wp (seq (aM t w) f) Q i:=
 av SC (fun _=>hs) fun _ j ⟨e,ej⟩=>by subst ej;exact h e
theorem SE:wp (bG t) (fun s j=>bf t i 0 0 2=true∧s=t.text i∧j=i+1) i:=by
 unfold bG
 exact jq (wp_cond (fun e=>BK (fq (wp_ret ⟨e,rfl,rfl⟩))) (fun _=>qL Sy.ret))
theorem Mq (h:bf t i 0 0 q=true):(t.kind i:Int)=q:=by
 unfold bf at h
 simp at h
 exact h.2
theorem JE (h:au t i 0 0 w=true):i<t.len:=by
 unfold au at h
 simp at h
 exact h.1
theorem zH (h:bf t i 0 0 q=true):i<t.len:=by
 unfold bf at h
 simp at h
 exact h.1
theorem dF (hg:GT t) {f:ByteArray→GP β} (hs:∀s,Sy (f s)) (h:∀s,nI s→i<t.len→wp (f s) Q (i+1)):wp (bnd (bG t) f) Q i:=
 av SE hs fun s j ⟨e,e2,ej⟩=>by
  subst ej e2
  exact h _ (hg.nm _ (by have:=Mq e;omega)) (zH e)
end
theorem Ev.to {α:Type} {m:Nat→GP α} {s:Rs} {x:α} {j j':Nat} (h:Ev m s (x,⟨j,0,0⟩)) (e:j=j'):Ev m s (x,⟨j',0,0⟩):=e▸h
theorem sW {t:Tk} {i:Nat} {s:ByteArray} (hs:nI s) (h:dI t i s.data.toList):Ev (fun _=>bG t) ⟨i,0,0⟩ (s,⟨i+1,0,0⟩):=by
 have e:t.text i=s:=by rw[h.tx (by rw[hs.1];decide)]
 refine Ev.ak dz (Ev.yes ((kE h).trans (by rw[hs.1];rfl)) ?_)
 have:=Ev.ak (f:=fun(_:Nat) s=>seq (dK 1) (ret s)) (vX (t:=t) (i:=i) (k:=0) (a:=0)) (Ev.seq iJ Ev.ret')
 rw[e] at this
 exact this
theorem Mr {t:Tk} {i:Nat} (h:au t i 0 0 ⟨#[109,117,116]⟩=true):Ev (fun _=>jC t) ⟨i,0,0⟩ (1,⟨i+1,0,0⟩):=Ev.ak (iV h) (Ev.yes rfl Ev.ret')
theorem Ms {t:Tk} {i:Nat} (h:au t i 0 0 ⟨#[109,117,116]⟩=false):Ev (fun _=>jC t) ⟨i,0,0⟩ (0,⟨i,0,0⟩):=Ev.ak (dn h) (Ev.no rfl Ev.ret')
theorem NZ {w:ByteArray} {l:List UInt8} (h:(w.data.toList==l)=true):(w.toList==l)=true:=by rw[Lib.toList_data];exact h
theorem Vb {w:ByteArray} {l:List UInt8} (h:(w.data.toList==l)=false):(w.toList==l)=false:=by rw[Lib.toList_data];exact h
theorem JF {t:Tk} {i:Nat} {u:Wd} (h:dI t i u):Ev (fun _=>H9 t) ⟨i,0,0⟩ ((wk u:Int),⟨i,0,0⟩):=by rw[←h.kd];exact Nj
theorem abG {t:Tk} {i:Nat} {u:Wd} (h:dI t i u) (e:(wk u !=1)=true):Ev (fun _=>zf t) ⟨i,0,0⟩ (⟨u.toArray⟩,⟨i,0,0⟩):=by rw[←h.tx (by simpa using e)];exact vX
theorem GH {b:Bool} (h:b=true:=by
 first
  |rfl
  |with_reducible assumption
  |exact fD (by with_reducible assumption) (by rfl)
  |exact kindB_y (by with_reducible assumption) (by rfl)
  |exact NZ (by rfl)
  |(refine mW ?_;exact NZ (by rfl))
  |(refine dZ ?_;exact NZ (by rfl))
  |(refine mW ?_;first|with_reducible assumption|exact fD (by with_reducible assumption) (by rfl))
  |(refine dZ ?_;first|with_reducible assumption|exact fD (by with_reducible assumption) (by rfl))
  |(refine dR ?_ ?_<;>first|with_reducible assumption|exact fD (by with_reducible assumption) (by rfl)|rfl)):b=true:=h
theorem AY {b:Bool} (h:b=false:=by
 first
  |rfl
  |with_reducible assumption
  |exact gY (by with_reducible assumption) (by rfl)
  |exact bQ (by with_reducible assumption) (by rfl)
  |exact Fg (by with_reducible assumption) (by rfl)
  |exact Fh (by with_reducible assumption) (by rfl)
  |exact Vb (by rfl)
  |(refine jh ?_ ?_<;>exact Vb (by rfl))
  |(refine jh ?_ ?_<;>first|with_reducible assumption|exact gY (by with_reducible assumption) (by rfl)|exact bQ (by with_reducible assumption) (by rfl))
  |(refine oL ?_;first|with_reducible assumption|exact gY (by with_reducible assumption) (by rfl)|exact bQ (by with_reducible assumption) (by rfl))
  |(refine jf ?_;first|with_reducible assumption|exact gY (by with_reducible assumption) (by rfl)|exact bQ (by with_reducible assumption) (by rfl)|rfl)):b=false:=h
theorem JG {α:Type} {y:α} {j j':Nat} (e:j=j'):Ev (fun _=>ret y) ⟨j,0,0⟩ (y,⟨j',0,0⟩):=e▸Ev.ret'
theorem Hy {α β:Type} {b:Bool} {x y:Nat→GP α} {f:Nat→α→GP β} {s:Rs} {r:β × Rs} (hb:b=true) (h:Ev (fun n=>bnd (x n) (f n)) s r):Ev (fun n=>bnd (cond b (x n) (y n)) (f n)) s r:=by subst hb;exact h
theorem Vd {α β:Type} {b:Bool} {x y:Nat→GP α} {f:Nat→α→GP β} {s:Rs} {r:β × Rs} (hb:b=false) (h:Ev (fun n=>bnd (y n) (f n)) s r):Ev (fun n=>bnd (cond b (x n) (y n)) (f n)) s r:=by subst hb;exact h
theorem aea {α β:Type} {b:Bool} {x y:Nat→GP α} {f:Nat→GP β} {s:Rs} {r:β × Rs} (hb:b=false) (h:Ev (fun n=>seq (y n) (f n)) s r):Ev (fun n=>seq (cond b (x n) (y n)) (f n)) s r:=by subst hb;exact h
theorem Ve {α β γ:Type} {x:Nat→GP α} {g:Nat→α→GP β} {f:Nat→β→GP γ} {s:Rs} {r:γ × Rs} (h:Ev (fun n=>bnd (x n) (fun a=>bnd (g n a) (f n))) s r):Ev (fun n=>bnd (bnd (x n) (g n)) (f n)) s r:=by
 have e:(fun n=>bnd (bnd (x n) (g n)) (f n))=(fun n=>bnd (x n) (fun a=>bnd (g n a) (f n))):=by
  funext n s
  unfold bnd
  cases x n s<;>rfl
 rw[e]
 exact h
theorem aeb {α β γ:Type} {x:Nat→GP α} {g:Nat→GP β} {f:Nat→β→GP γ} {s:Rs} {r:γ × Rs} (h:Ev (fun n=>seq (x n) (bnd (g n) (f n))) s r):Ev (fun n=>bnd (seq (x n) (g n)) (f n)) s r:=Ve (g:=fun n _=>g n) h
theorem evs {α:Type} {m:Nat→GP α} {s:Rs} {r:α × Rs} (h:Ev m s r:=by
 repeat' (first
  |with_reducible assumption
  |with_reducible exact Ev.ret'
  |((with_reducible refine JG ?_);(first|rfl|(simp only[List.length_cons,List.length_append,List.length_nil];omega)))
  |with_reducible refine Ev.ak bL ?_
  |with_reducible refine Ev.ak aI ?_
  |with_reducible refine Ev.ak dz ?_
  |with_reducible refine Ev.ak bT ?_
  |with_reducible refine Ev.seq iJ ?_
  |with_reducible refine Ev.seq Ev.ret' ?_
  |with_reducible refine Ev.ak Ev.ret' ?_
  |with_reducible refine Ev.ak (sW ‹_› ‹_›) ?_
  |((with_reducible refine Ev.ak (iV ?_) ?_);(exact GH))
  |((with_reducible refine Ev.ak (dn ?_) ?_);(exact AY))
  |((with_reducible refine Ev.seq (bP ?_) ?_);(exact GH))
  |((with_reducible refine Ev.ak (Mr ?_) ?_);(exact GH))
  |((with_reducible refine Ev.ak (Ms ?_) ?_);(exact AY))
  |((with_reducible refine Hy ?_ ?_);(exact GH))
  |((with_reducible refine Vd ?_ ?_);(exact AY))
  |((with_reducible refine aea ?_ ?_);(exact AY))
  |((with_reducible refine Ev.yes ?_ ?_);(exact GH))
  |((with_reducible refine Ev.no ?_ ?_);(exact AY))
  |with_reducible refine Ev.ak ‹_› ?_
  |with_reducible refine Ev.ak (JF ‹_›) ?_
  |((with_reducible refine Ev.ak (abG ‹_› ?_) ?_);(rfl))
  |with_reducible refine Ev.seq ‹_› ?_
  |with_reducible refine aeb ?_
  |with_reducible refine Ve ?_)):Ev m s r:=h
def jP (s:Wd) (Us:List (List Wd)):List Wd:=(Us.map (fun u=>s::u)).flatten
def aS (s:Wd):List (List Wd)→List Wd
 |[]=>[]
 |u::r=>u++jP s r
theorem GI {s:Wd}:∀{Us:List (List Wd)} {Ks:List Kd},Zip (fun us K=>glue us=glue K.t) Us Ks→glue (jP s Us)=glue (oK s Ks)
 |[],[],_=>rfl
 |u::Us,K::Ks,h=>by
  have:=GI (s:=s) h.2
  unfold jP oK at this⊢
  simp only[List.map_cons,List.flatten_cons,aN,aQ,List.cons_append,this,h.1]
 |[],_::_,hz=>hz.elim
 |_::_,[],hz=>hz.elim
theorem iO {s:Wd}:∀{Us:List (List Wd)} {Ks:List Kd},Zip (fun us K=>glue us=glue K.t) Us Ks→glue (aS s Us)=glue (pSep s Ks)
 |[],[],_=>rfl
 |u::Us,K::Ks,h=>by
  unfold aS pSep
  rw[aN,aN,GI h.2,h.1]
 |[],_::_,hz=>hz.elim
 |_::_,[],hz=>hz.elim
structure Bk (m:Tk→Nat→GP (List Nr)) (Fo:Tk→Nat→Prop) (L:List Wd) (N:List Nat) (lb:Int→Prop) (x:List Nr) (K:Kd) (us:List Wd):Prop where
 pt:Pt x K
 gl:glue us=glue K.t
 ok:∀u∈us,okW u=true
 hd:∃u r,us=u::r∧(L.contains u||N.contains (wk u))=true
 rd:qC m Fo x us
 lb:lb (bA x)
structure tY (m:Tk→Nat→GP (List Nr)) (Fo:Tk→Nat→Prop) (L:List Wd) (N:List Nat) (lb:Int→Prop) (F:List (List Nr)) (Ks:List Kd) (Us:List (List Wd)):Prop where
 pt:Zip Pt F Ks
 gl:Zip (fun us K=>glue us=glue K.t) Us Ks
 ok:∀us∈Us,∀u∈us,okW u=true
 rd:Zip (fun x us=>qC m Fo x us∧∃u r,us=u::r∧(L.contains u||N.contains (wk u))=true) F Us
 lb:∀x∈F.map bA,lb x
section
variable {m:Tk→Nat→GP (List Nr)} {Fo:Tk→Nat→Prop} {L:List Wd} {N:List Nat} {lb:Int→Prop}
theorem nJ:∀{F:List (List Nr)},(∀x∈F,∃K us,Bk m Fo L N lb x K us)→∃Ks Us,tY m Fo L N lb F Ks Us
 |[],_=>⟨[],[],⟨trivial,trivial,(fun _ h=>nomatch h),trivial,(fun _ h=>nomatch h)⟩⟩
 |x::F,h=>by
  obtain⟨K,us,b⟩:=h x (List.mem_cons_self ..)
  obtain⟨Ks,Us,l⟩:=nJ (F:=F) (fun y hy=>h y (List.mem_cons_of_mem _ hy))
  refine⟨K::Ks,us::Us,⟨b.pt,l.pt⟩,⟨b.gl,l.gl⟩,?_,⟨⟨b.rd,b.hd⟩,l.rd⟩,?_⟩
  ·intro v hv
   rcases List.mem_cons.1 hv with rfl|hv
   ·exact b.ok
   ·exact l.ok v hv
  ·intro v hv
   rcases List.mem_cons.1 hv with rfl|hv
   ·exact b.lb
   ·exact l.lb v hv
variable {F:List (List Nr)} {Ks:List Kd} {Us:List (List Wd)}
theorem tY.len (l:tY m Fo L N lb F Ks Us):F.length=Us.length∧F.length=Ks.length:=⟨l.rd.len,l.pt.len⟩
theorem Mt {s:Wd} (hs:okW s=true):∀{Us:List (List Wd)},(∀us∈Us,∀u∈us,okW u=true)→∀u∈jP s Us,okW u=true
 |[],_,u,hu=>by cases hu
 |v::Us,h,u,hu=>by
  unfold jP at hu
  simp only[List.map_cons,List.flatten_cons,List.mem_append,List.mem_cons] at hu
  rcases hu with(rfl|hu)|hu
  ·exact hs
  ·exact h v (List.mem_cons_self ..) u hu
  ·exact Mt hs (fun us dS=>h us (List.mem_cons_of_mem _ dS)) u hu
theorem kF {s:Wd} (hs:okW s=true):∀{Us:List (List Wd)},(∀us∈Us,∀u∈us,okW u=true)→∀u∈aS s Us,okW u=true
 |[],_,u,hu=>by cases hu
 |v::Us,h,u,hu=>by
  unfold aS at hu
  rcases List.mem_append.1 hu with hu|hu
  ·exact h v (List.mem_cons_self ..) u hu
  ·exact Mt hs (fun us dS=>h us (List.mem_cons_of_mem _ dS)) u hu
theorem AZ (h:∀us∈Us,∀u∈us,okW u=true):∀u∈Us.flatten,okW u=true:=by
 intro u hu
 obtain⟨v,hv,h2⟩:=List.mem_flatten.1 hu
 exact h v hv u h2
theorem At.head {t:Tk} {i:Nat} {us:List Wd} (h:At t i us) (hd:∃u r,us=u::r∧(L.contains u||N.contains (wk u))=true):cu t i L N:=by
 obtain⟨u,r,rfl,h2⟩:=hd
 exact cu.of h.1 h2
structure wP (t:Tk) (X:Nat→GP (List Nr)) (s e:ByteArray) (B:Nat→List (List Nr)→GP (Bool × List (List Nr))):Prop where
 last:∀{o:List (List Nr)} {i j:Nat} {y:List Nr},Ev X ⟨i,0,0⟩ (y,⟨j,0,0⟩)→au t j 0 0 e=true→Ev (fun n=>B n o) ⟨i,0,0⟩ ((false,o++[y]),⟨j+1,0,0⟩)
 more:∀{o:List (List Nr)} {i j:Nat} {y:List Nr},Ev X ⟨i,0,0⟩ (y,⟨j,0,0⟩)→au t j 0 0 e=false→au t j 0 0 s=true→Ev (fun n=>B n o) ⟨i,0,0⟩ ((true,o++[y]),⟨j+1,0,0⟩)
theorem wP.run {t:Tk} {s e:Wd} {B:Nat→List (List Nr)→GP (Bool × List (List Nr))} (hB:wP t (m t) ⟨s.toArray⟩ ⟨e.toArray⟩ B) (hse:lT s ⟨s.toArray⟩=true∧lT e ⟨e.toArray⟩=true∧lT s ⟨e.toArray⟩=false) (JH:∀j,dI t j s→Fo t j) (JI:∀j,dI t j e→Fo t j):∀{F:List (List Nr)} {Us:List (List Wd)},F≠[]→Zip (fun x us=>qC m Fo x us∧∃u r,us=u::r∧(L.contains u||N.contains (wk u))=true) F Us→∀(i:Nat) (o:List (List Nr)),At t i (aS s Us++[e])→∃F',F'.map er=F.map er∧EvL B o ⟨i,0,0⟩ (o++F',⟨i+(aS s Us).length+1,0,0⟩)
 |[],_,hne,_,_,_,_=>absurd rfl hne
 |[x],[u],_,hz,i,o,hat=>by
  have e1:aS s [u]=u:=by simp[aS,jP]
  rw[e1] at hat⊢
  obtain⟨a1,a2⟩:=hat.app
  obtain⟨x',h1,h2⟩:=hz.1.1 t i a1 (JI _ a2.1)
  exact⟨[x'],by simp[h1],EvL.stop (hB.last h2 (fD a2.1 hse.2.1))⟩
 |x::y::F,u::v::Us,_,hz,i,o,hat=>by
  have e1:aS s (u::v::Us)=u++(s::aS s (v::Us)):=by simp[aS,jP]
  rw[e1] at hat⊢
  rw[List.append_assoc] at hat
  obtain⟨a1,a2,a3⟩:=hat.app
  obtain⟨x',h1,h2⟩:=hz.1.1 t i a1 (JH _ a2)
  obtain⟨F',h3,h4⟩:=wP.run hB hse JH JI (by simp) hz.2 _ (o++[x']) a3
  refine⟨x'::F',by rw[List.map_cons,List.map_cons,h1,h3],?_⟩
  have h5:=EvL.on (hB.more (o:=o) h2 (gY a2 hse.2.2) (fD a2 hse.1)) h4
  rw[List.append_assoc] at h5
  have e2:i+u.length+1+(aS s (v::Us)).length+1=i+(u++s::aS s (v::Us)).length+1:=by simp only[List.length_append,List.length_cons];omega
  rw[e2] at h5
  exact h5
 |_::_,[],_,hz,_,_,_=>hz.elim
 |[_],_::_::_,_,hz,_,_,_=>hz.2.elim
 |_::_::_,[_],_,hz,_,_,_=>hz.2.elim
structure wQ (t:Tk) (X:Nat→GP (List Nr)) (s e:ByteArray) (B:Nat→List (List Nr)→GP (Bool × List (List Nr))):Prop where
 stop:∀{o:List (List Nr)} {i:Nat},au t i 0 0 e=true→Ev (fun n=>B n o) ⟨i,0,0⟩ ((false,o),⟨i+1,0,0⟩)
 last:∀{o:List (List Nr)} {i j:Nat} {y:List Nr},au t i 0 0 e=false→Ev X ⟨i,0,0⟩ (y,⟨j,0,0⟩)→au t j 0 0 e=true→Ev (fun n=>B n o) ⟨i,0,0⟩ ((true,o++[y]),⟨j,0,0⟩)
 more:∀{o:List (List Nr)} {i j:Nat} {y:List Nr},au t i 0 0 e=false→Ev X ⟨i,0,0⟩ (y,⟨j,0,0⟩)→au t j 0 0 e=false→au t j 0 0 s=true→Ev (fun n=>B n o) ⟨i,0,0⟩ ((true,o++[y]),⟨j+1,0,0⟩)
theorem wQ.run {t:Tk} {s e:Wd} {B:Nat→List (List Nr)→GP (Bool × List (List Nr))} (hB:wQ t (m t) ⟨s.toArray⟩ ⟨e.toArray⟩ B) (hse:lT s ⟨s.toArray⟩=true∧lT e ⟨e.toArray⟩=true∧lT s ⟨e.toArray⟩=false) (JH:∀j,dI t j s→Fo t j) (JI:∀j,dI t j e→Fo t j) (hne:∀j,cu t j L N→au t j 0 0 ⟨e.toArray⟩=false):∀{F:List (List Nr)} {Us:List (List Wd)},Zip (fun x us=>qC m Fo x us∧∃u r,us=u::r∧(L.contains u||N.contains (wk u))=true) F Us→∀(i:Nat) (o:List (List Nr)),At t i (aS s Us++[e])→∃F',F'.map er=F.map er∧EvL B o ⟨i,0,0⟩ (o++F',⟨i+(aS s Us).length+1,0,0⟩)
 |[],[],_,i,o,hat=>⟨[],rfl,by
  have:=EvL.stop (hB.stop (o:=o) (fD hat.1 hse.2.1))
  simpa[aS] using this⟩
 |[x],[u],hz,i,o,hat=>by
  have e1:aS s [u]=u:=by simp[aS,jP]
  rw[e1] at hat⊢
  obtain⟨a1,a2⟩:=hat.app
  obtain⟨x',h1,h2⟩:=hz.1.1 t i a1 (JI _ a2.1)
  exact⟨[x'],by simp[h1],EvL.on (hB.last (hne _ (a1.head hz.1.2)) h2 (fD a2.1 hse.2.1)) (EvL.stop (hB.stop (fD a2.1 hse.2.1)))⟩
 |x::y::F,u::v::Us,hz,i,o,hat=>by
  have e1:aS s (u::v::Us)=u++(s::aS s (v::Us)):=by simp[aS,jP]
  rw[e1] at hat⊢
  rw[List.append_assoc] at hat
  obtain⟨a1,a2,a3⟩:=hat.app
  obtain⟨x',h1,h2⟩:=hz.1.1 t i a1 (JH _ a2)
  obtain⟨F',h3,h4⟩:=wQ.run hB hse JH JI hne hz.2 _ (o++[x']) a3
  refine⟨x'::F',by rw[List.map_cons,List.map_cons,h1,h3],?_⟩
  have h5:=EvL.on (hB.more (o:=o) (hne _ (a1.head hz.1.2)) h2 (gY a2 hse.2.2) (fD a2 hse.1)) h4
  rw[List.append_assoc] at h5
  have e2:i+u.length+1+(aS s (v::Us)).length+1=i+(u++s::aS s (v::Us)).length+1:=by simp only[List.length_append,List.length_cons];omega
  rw[e2] at h5
  exact h5
 |[],_::_,hz,_,_,_=>hz.elim
 |_::_,[],hz,_,_,_=>hz.elim
 |[_],_::_::_,hz,_,_,_=>hz.2.elim
 |_::_::_,[_],hz,_,_,_=>hz.2.elim
theorem Fj {t:Tk} {X:Nat→GP (List Nr)} {e:ByteArray}:wP t X ⟨#[44]⟩ e (fun n=>gH t (X n) e) where
 last:=fun h1 h2=>by unfold gH;exact evs
 more:=fun h1 h2 h3=>by unfold gH;exact evs
theorem Fp {t:Tk} {e:Wd} (hse:lT [44] ⟨[44].toArray⟩=true∧lT e ⟨e.toArray⟩=true∧lT [44] ⟨e.toArray⟩=false) (JH:∀j,dI t j [44]→Fo t j) (JI:∀j,dI t j e→Fo t j) (hne:∀j,cu t j L N→au t j 0 0 ⟨e.toArray⟩=false) (l:tY m Fo L N lb F Ks Us) {i:Nat} (hat:At t i (aS [44] Us++[e])):∃F',F'.map er=F.map er∧Ev (fun n=>fC t (m t n) ⟨e.toArray⟩ n) ⟨i,0,0⟩ (F',⟨i+(aS [44] Us).length+1,0,0⟩):=by
 have hz:=l.rd
 cases hF:F with
 |nil=>
  subst hF
  cases Us with
  |cons _ _=>exact hz.elim
  |nil=>exact⟨[],rfl,Ev.ak (iV (fD hat.1 hse.2.1)) (Ev.yes rfl Ev.ret')⟩
 |cons x F1=>
  subst hF
  cases Us with
  |nil=>exact hz.elim
  |cons u Us=>
   obtain⟨F',h1,h2⟩:=wP.run (B:=fun n=>gH t (m t n) ⟨e.toArray⟩) Fj hse JH JI (by simp) hz i [] hat
   have h3:cu t i L N:=by
    have:At t i (u++(jP [44] Us++[e])):=by rw[←List.append_assoc];exact hat
    exact this.app.1.head hz.1.2
   exact⟨F',h1,Ev.ak (dn (hne _ h3)) (Ev.no rfl h2.ev)⟩
end
end Go.Proofs.YtdplogkmkgekdaaGreatDoor.Bk
