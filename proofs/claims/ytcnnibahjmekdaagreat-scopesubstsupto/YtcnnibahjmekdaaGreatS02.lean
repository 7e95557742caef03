import Derived.Deep.RegionHeld3
import Derived.Test.YtcnnibahjmekdaaGreatS01
namespace Go.Proofs.YtcnnibahjmekdaaGreat
open Go.RowKit
open Value renaming slice→J
open List renaming length→O
open Option renaming none→I
open World renaming heap→U
open _root_.Array renaming size→E
open Obj renaming cells→Ob
set_option linter.all false
set_option maxRecDepth 100000
set_option maxHeartbeats 0
section
variable{ks:List Int}
theorem kq {x:Int} (h:lQ ks) (a:cH x):lQ (ks++[x]):=by
 obtain⟨b,c,rfl,d,e⟩:=h;exact⟨b,c++[x],sQ,d,aM e a⟩
theorem jG (h:∀x∈ks,x=19):lQ ks:=⟨ks,[],sQ,h,λx a=>by cases a⟩
end
def mU (lv:Bool) (ks:List Int):Prop:=∀x∈ks,(lv=true->x=19)/\(x=19\/x=18)
section
variable{name:ByteArray} {a' d k' kind m n pos:Int} {vs vs':List (List Value)} {c:List Value} {ad b base f h i':Nat} {S:Nat->Prop} {g must:Prop} {kv kv':Value} {w w':World}
variable{wt:Nat}
def eO (w:World):Value->List (List Value)
 |J (some p) n _=>(List.range n).map (λi=>(List.range 11).map (λo=>(w.cell? ⟨p.block,i*11+o,I⟩).getD undef))
 |_=>[]
theorem jR {e:Nat} {v:Value} (h:w.ownsRow base e 11 v (O vs) vs.flatten) (hl:∀x∈vs,O x=11):eO w v=vs:=by
 rcases h.2 with⟨l,r⟩|⟨g,cap,cur,l,hb,hg,hnc,hcm,hcs,htake⟩
 ·obtain rfl:vs=[]:=List.eq_nil_of_length_eq_zero r;rw[l];rfl
 ·rw[l];unfold eO;apply List.ext_getElem?
  intro i;by_cases o:i<O vs
  ·have p:vs[i]? =some vs[i]:=gG o;have z:=hl _ (List.getElem_mem o);rw[List.getElem?_map,List.getElem?_range o,p];show some _=some _;congr 1
   apply List.ext_getElem?
   intro a;by_cases q:a<11
   ·rw[List.getElem?_map,List.getElem?_range q];have u:i*11+a<O vs*11:=oM;show some ((w.cell? ⟨g,i*11+a,I⟩).getD undef)=_;have y:(cur.toList.take (O vs*11))[i*11+a]? =cur[i*11+a]? :=by rw[List.getElem?_take,if_pos u];simp
    rw[cell_of_row w g (i*11+a) cur e (0,0) hg,<-y,htake,kY hl p a q,gG oM];rfl
   ·rw[List.getElem?_eq_none (by simp;omega),List.getElem?_eq_none oM]
  ·rw[List.getElem?_eq_none (by simp;omega),List.getElem?_eq_none oM]
def aG:Nat->World->List Value->Nat
 |0,_,_=>0
 |f+1,w,cs=>1+((eO w (cs.getD 5 undef)).map (aG f w)).sum
theorem pB (a:w.ownsRow base 46 11 kv (O vs) vs.flatten) (e:∀x∈vs,isNode S g h w x):aG (f+1) w (ae kind pos n m name kv).toList=1+(vs.map (aG f w)).sum:=by
 have l:=jR a (λx o=>(isNode.ry _ _ (e x o)).1);show 1+((eO w kv).map (aG f w)).sum=_;rw[l]
theorem aQ (e:al S w w'):(h:Nat)->(cs:List Value)->isNode S g h w cs->∀f,aG f w' cs=aG f w cs
 |0,_,hn,_=>absurd hn (λa=>a)
 |_+1,_,_,0=>rfl
 |h+1,_,⟨kind,pos,n,m,name,kv,vs,h1,h2,h3,h3',h4,h5,h6,h7⟩,f+1=>by
  subst h1;rw[pB h4 h6,pB (ag h4 (λb o p=>e b (h5 b o) p)) (λa l=>isNode.frame e h a (h6 a l))];have:vs.map (aG f w')=vs.map (aG f w):=List.map_congr_left (λa l=>aQ e h a (h6 a l) f);rw[this]
theorem iU {f g:List Value->Nat} (vs:List (List Value)) (h:∀x∈vs,f x<=g x):(vs.map f).sum<=(vs.map g).sum:=by
 induction vs with
 |nil=>simp
 |cons x o a=>
  simp only[List.map_cons,List.sum_cons];have p:=h x (List.mem_cons_self ..);have q:=a (λe l=>h e (List.mem_cons_of_mem _ l));omega
theorem vj:(f:Nat)->(w:World)->(cs:List Value)->aG f w cs<=aG (f+1) w cs
 |0,_,_=>zL _
 |f+1,w,cs=>by
  show 1+((eO w (cs.getD 5 undef)).map (aG f w)).sum<=1+((eO w (cs.getD 5 undef)).map (aG (f+1) w)).sum;have:=iU (f:=aG f w) (g:=aG (f+1) w) (eO w (cs.getD 5 undef)) (λa _=>vj f w a);omega
def gh (wt:Nat):Nat->World->List Value->Nat
 |0,_,_=>0
 |f+1,w,cs=>wt+((eO w (cs.getD 5 undef)).map (gh wt f w)).sum
theorem jB (a:w.ownsRow base 46 11 kv (O vs) vs.flatten) (e:∀x∈vs,isNode S g h w x):gh wt (f+1) w (ae kind pos n m name kv).toList=wt+(vs.map (gh wt f w)).sum:=by
 have l:=jR a (λx o=>(isNode.ry _ _ (e x o)).1);show wt+((eO w kv).map (gh wt f w)).sum=_;rw[l]
theorem f' (e:al S w w'):(h:Nat)->(cs:List Value)->isNode S g h w cs->∀f,gh wt f w' cs=gh wt f w cs
 |0,_,hn,_=>absurd hn (λa=>a)
 |_+1,_,_,0=>rfl
 |h+1,_,⟨kind,pos,n,m,name,kv,vs,h1,h2,h3,h3',h4,h5,h6,h7⟩,f+1=>by
  subst h1;rw[jB h4 h6,jB (ag h4 (λb o p=>e b (h5 b o) p)) (λa l=>isNode.frame e h a (h6 a l))];have:vs.map (gh wt f w')=vs.map (gh wt f w):=List.map_congr_left (λa l=>f' e h a (h6 a l) f);rw[this]
theorem qj:(f:Nat)->(w:World)->(cs:List Value)->gh wt f w cs<=gh wt (f+1) w cs
 |0,_,_=>zL _
 |f+1,w,cs=>by
  show wt+((eO w (cs.getD 5 undef)).map (gh wt f w)).sum<=wt+((eO w (cs.getD 5 undef)).map (gh wt (f+1) w)).sum;have:=iU (f:=gh wt f w) (g:=gh wt (f+1) w) (eO w (cs.getD 5 undef)) (λa _=>qj f w a);omega
theorem jm wt (f:Nat) (w:World) (vs:List (List Value)):(vs.map (gh wt f w)).sum<=(vs.map (gh wt (f+1) w)).sum:=iU vs (λa _=>qj f w a)
theorem jl:(f:Nat)->(w:World)->(cs:List Value)->gh wt f w cs=wt*aG f w cs
 |0,_,_=>rfl
 |f+1,w,cs=>by
  show wt+((eO w (cs.getD 5 undef)).map (gh wt f w)).sum=wt*(1+((eO w (cs.getD 5 undef)).map (aG f w)).sum)
  have:∀vs:List (List Value),(vs.map (gh wt f w)).sum=wt*(vs.map (aG f w)).sum:=by
   intro vs;induction vs with
   |nil=>rfl
   |cons a vs e=>rw[List.map_cons,List.map_cons,List.sum_cons,List.sum_cons,e,jl f w a,Nat.mul_add]
  rw[this,Nat.mul_add,Nat.mul_one]
def fm (wt f:Nat) (w:World) (vs:List (List Value)):Int:=(((vs.map (gh wt f w)).sum:Nat):Int)
theorem du (f:Nat) (w:World):fm wt f w []=0:=rfl
theorem cU (f:Nat) (w:World) (x:List Value) (vs:List (List Value)):fm wt f w (x::vs)=(gh wt f w x:Int)+fm wt f w vs:=by simp[fm]
theorem bL (f:Nat) (w:World) (a b:List (List Value)):fm wt f w (a++b)=fm wt f w a+fm wt f w b:=by simp[fm]
theorem cP (wt f:Nat) (w:World) (vs:List (List Value)):0<=fm wt f w vs:=by unfold fm;omega
theorem sA (f:Nat) (w:World) (vs:List (List Value)):fm wt f w vs=(wt:Int)*fm 1 f w vs:=by
 induction vs with
 |nil=>simp[fm]
 |cons e vs a=>rw[cU,cU,a,jl,jl,Int.mul_add];simp
structure Mz (wt:Nat) (w:World) (rb tb cap:Nat) (t:Tk) (i:Nat) (k:Int) (g:Prop) (s:Int) (W:World) (j:Nat) (kj aj:Int) (L:List (Nat × Array Value)) (T:List (List Value)) (kv:Value) (vs:List (List Value)):Prop where
 dt:bI w rb tb cap t i k g W j kj aj L T kv vs
 sz:kj=0->∀f,fm wt f W vs+fm wt f W T<=16*((j:Int) - (i:Int))+s
def aY (wt:Nat) (w:World) (rb tb cap:Nat) (t:Tk) (i:Nat) (k:Int) (must:Prop) (d:Int) (C:Int->Prop) (e:Ending) (w':World):Prop:=
 ∃(kind pos n m:Int) (name:ByteArray) (ko:Option Addr) (kl kc:Nat) (i':Nat) (k' a':Int),e=.returned (.agg (ae kind pos n m name (J ko kl kc)))/\Nx w rb tb cap t i k must w' i' k' a'/\eC (E (U w)) (k'=0) w' (ae kind pos n m name (J ko kl kc)).toList/\(k'=0->C (aA (ae kind pos n m name (J ko kl kc)).toList))/\(k'=0->∀f,(gh wt f w' (ae kind pos n m name (J ko kl kc)).toList:Int)+d<=16*((i':Int) - (i:Int)))
def iS (wt:Nat) (w:World) (rb tb cap:Nat) (t:Tk) (i:Nat) (k:Int) (must:Prop) (d:Int) (C:List Int->Prop) (e:Ending) (w':World):Prop:=
 ∃(ao:Option Addr) (cp:Nat) (vs:List (List Value)) (i':Nat) (k' a':Int),e=.returned (J ao (O vs) cp)/\Nx w rb tb cap t i k must w' i' k' a'/\Kids (E (U w)) (k'=0) w' (J ao (O vs) cp) vs/\O vs<=6002/\(k'=0->C (vs.map aA))/\(k'=0->∀f,fm wt f w' vs+d<=16*((i':Int) - (i:Int)))
section
variable{w W w':World} {rb tb cap i j:Nat} {t:Tk} {k kj aj:Int} {g:Prop} {s:Int} {L:List (Nat × Array Value)} {T:List (List Value)} {kv:Value} {vs:List (List Value)}
theorem bI.wg (q:bI w rb tb cap t i k g W j kj aj L T kv vs) (l:al (Out w (L.map jb) kv) W w') (f:Nat):fm wt f w' vs=fm wt f W vs/\fm wt f w' T=fm wt f W T:=by
 obtain⟨h,o⟩:=q.all;constructor
 ·unfold fm;rw[List.map_congr_left (λa e=>f' l _ _ (o a (.inl e)) f)]
 ·unfold fm;rw[List.map_congr_left (λa e=>f' l _ _ (o a (.inr e)) f)]
theorem bI.gq (q:bI w rb tb cap t i k g W j kj aj L T kv vs) (a:Kp (E (U W)) rb W w') (f:Nat):fm wt f w' vs=fm wt f W vs/\fm wt f w' T=fm wt f W T:=
 q.wg (wt:=wt) (al.kp a (λe=>oI e.1 q.st.lb)) f
theorem Mz.start {a:Int} (h:Rd w rb tb cap t i k a):Mz wt w rb tb cap t i k False 0 w i k a [] [] (J I 0 0) []:=⟨bI.start h,λ_ f=>by rw[du];omega⟩
theorem Mz.less (q:Mz wt w rb tb cap t i k g s W j kj aj L T kv vs) {s':Int} (h:s<=s'):Mz wt w rb tb cap t i k g s' W j kj aj L T kv vs:=⟨q.dt,λa f=>oH (q.sz a f)⟩
theorem Mz.rk (q:Mz wt w rb tb cap t i k g s W j kj aj L T kv vs) (o:Rd w' rb tb cap t i' k' a') (a:Kp (E (U W)) rb W w') (p:j<=i') (e:k'=0->kj=0):Mz wt w rb tb cap t i k g s w' i' k' a' L T kv vs:=
 ⟨q.dt.rk o a p e,λr f=>by have h:=q.sz (e r) f;have l:=q.dt.gq (wt:=wt) a f;rw[l.1,l.2];omega⟩
theorem Mz.nx (q:Mz wt w rb tb cap t i k g s W j kj aj L T kv vs) (a:Nx W rb tb cap t j kj must w' i' k' a'):Mz wt w rb tb cap t i k g s w' i' k' a' L T kv vs:=q.rk a.rd a.kp a.le a.ok
theorem Mz.up (q:Mz wt w rb tb cap t i k g s W j kj aj L T kv vs) {g':Prop} (a:g'->kj=0->i<j):Mz wt w rb tb cap t i k g' s W j kj aj L T kv vs:=⟨q.dt.up a,q.sz⟩
theorem Mz.qi (q:Mz wt w rb tb cap t i k g s W j kj aj L T kv vs) (a:Nx W rb tb cap t j kj True w' i' k' a'):Mz wt w rb tb cap t i k True (s - 16) w' i' k' a' L T kv vs:=
 ⟨q.dt.qi a,λe f=>by have h:=q.sz (a.ok e) f;have l:=q.dt.gq (wt:=wt) a.kp f;have o:=a.go trivial e;rw[l.1,l.2];omega⟩
theorem Mz.below (q:Mz wt w rb tb cap t i k g s W j kj aj L T kv vs) (a:Below (E (U W)) W w'):Mz wt w rb tb cap t i k g s w' j kj aj L T kv vs:=q.nx (Nx.below q.dt.st.rd a)
theorem Mz.drew (q:Mz wt w rb tb cap t i k g s W j kj aj L T kv vs):Mz wt w rb tb cap t i k g s W.drew j kj aj L T kv vs:=q.below (Below.refl _ _).drew
theorem Mz.alloc (q:Mz wt w rb tb cap t i k g s W j kj aj L T kv vs) (o:Obj):Mz wt w rb tb cap t i k g s (W.alloc o) j kj aj L T kv vs:=q.below ((Below.refl _ _).alloc (lR _) o)
theorem Mz.newAt (q:Mz wt w rb tb cap t i k g s W j kj aj L T kv vs) (a:ad=E (U W)) (c:Array Value):Mz wt w rb tb cap t i k g s (W.alloc (Ob c 46)) j kj aj ((ad,c)::L) T kv vs:=⟨q.dt.newAt a c,(q.alloc _).sz⟩
theorem Mz.put (q:Mz wt w rb tb cap t i k g s W j kj aj L T kv vs) (n:Nat) {c:Array Value} (a:L[n]? =some (b,c)) (o:Nat) (u:Value):Mz wt w rb tb cap t i k g s (W.setCell ⟨b,o,I⟩ u) j kj aj (L.set n (b,c.setIfInBounds o u)) T kv vs:=
 ⟨q.dt.put n a o u,λl f=>by
  have e:=q.dt.wg (wt:=wt) (w':=W.setCell ⟨b,o,I⟩ u) (al.setCell _ ⟨b,o,I⟩ _ (λp=>p.2.1 (List.mem_map.2 ⟨_,mG a,Q⟩))) f;rw[e.1,e.2];exact q.sz l f⟩
theorem Mz.lV (q:Mz wt w rb tb cap t i k g s W j kj aj L T kv vs) (n:Nat) {y z A B C D F G H K M:Value} (v:L[n]? =some (b,#[y,z,A,B,C,D,F,G,H,K,M])) (c0 c1 c2 c3 a e l o p r u:Value):Mz wt w rb tb cap t i k g s (bA W b c0 c1 c2 c3 a e l o p r u) j kj aj (L.set n (b,#[c0,c1,c2,c3,a,e,l,o,p,r,u])) T kv vs:=
 ⟨q.dt.lV n v c0 c1 c2 c3 a e l o p r u,λN f=>by
  have x:=q.dt.wg (wt:=wt) (w':=bA W b c0 c1 c2 c3 a e l o p r u) (al.bA (λP=>P.2.1 (List.mem_map.2 ⟨_,mG v,Q⟩)) _ _ _ _ _ _ _ _ _ _ _) f;rw[x.1,x.2];exact q.sz N f⟩
theorem Mz.jE (q:Mz wt w rb tb cap t i k g s W j kj aj L T kv vs) {j':Nat} (e:j'<t.len) (l:j<j'):Mz wt w rb tb cap t i k True (s - 16) (W.setCell ⟨rb,1,I⟩ (.int .i64 j')) j' kj aj L T kv vs:=
 ⟨q.dt.jE e l,λo f=>by
  have a:=q.dt.gq (wt:=wt) (w':=W.setCell ⟨rb,1,I⟩ (.int .i64 j')) (Kp.setCell (p:=⟨rb,1,I⟩) (Kp.refl _ _ _) (.inr Q) _) f;have r:=q.sz o f;rw[a.1,a.2];omega⟩
theorem Mz.node (q:Mz wt w rb tb cap t i k g s W j kj aj L T kv vs) (a:Nx W rb tb cap t j kj must w' i' k' a') (o:eC (E (U W)) (k'=0) w' c) (p:k'=0->∀f,(gh wt f w' c:Int)+d<=16*((i':Int) - (j:Int))):Mz wt w rb tb cap t i k g (s - d) w' i' k' a' L (c::T) kv vs:=
 ⟨q.dt.node a o,λe f=>by
  have h:=q.sz (a.ok e) f;have l:=q.dt.gq (wt:=wt) a.kp f;have r:=p e f;rw[cU,l.1,l.2];omega⟩
theorem Mz.tH (q:Mz wt w rb tb cap t i k g s W j kj aj L T kv vs) (a:Nx W rb tb cap t j kj True w' i' k' a') (e:eC (E (U W)) (k'=0) w' c) (l:k'=0->∀f,(gh wt f w' c:Int)+d<=16*((i':Int) - (j:Int))):Mz wt w rb tb cap t i k True (s - d) w' i' k' a' L (c::T) kv vs:=
 ⟨q.dt.tH a e,(q.node a e l).sz⟩
theorem Mz.holds (q:Mz wt w rb tb cap t i k g s W j kj aj L T kv vs) (a:Nx W rb tb cap t j kj must w' i' k' a') (hK:Kids (E (U W)) (k'=0) w' kv' vs') (o:k'=0->∀f,fm wt f w' vs'+d<=16*((i':Int) - (j:Int))):Mz wt w rb tb cap t i k g (s - d) w' i' k' a' L (vs'++T) kv vs:=
 ⟨q.dt.holds a hK,λe f=>by
  have h:=q.sz (a.ok e) f;have l:=q.dt.gq (wt:=wt) a.kp f;have p:=o e f;rw[bL,l.1,l.2];omega⟩
theorem Mz.list (q:Mz wt w rb tb cap t i k g s W j kj aj L T (J I 0 0) []) (a:Nx W rb tb cap t j kj must w' i' k' a') (hK:Kids (E (U W)) (k'=0) w' kv' vs') (l:k'=0->∀f,fm wt f w' vs'+d<=16*((i':Int) - (j:Int))):Mz wt w rb tb cap t i k g (s - d) w' i' k' a' L T kv' vs':=
 ⟨q.dt.list a hK,λe f=>by
  have h:=q.sz (a.ok e) f;have o:=q.dt.gq (wt:=wt) a.kp f;have p:=l e f;rw[du] at h;rw[o.2];omega⟩
theorem Mz.swap {a b:List Value} (q:Mz wt w rb tb cap t i k g s W j kj aj L (a::b::T) kv vs):Mz wt w rb tb cap t i k g s W j kj aj L (b::a::T) kv vs:=
 ⟨q.dt.swap,λe f=>by have h:=q.sz e f;rw[cU,cU] at h⊢;omega⟩
theorem Mz.pop {p:Nat × Array Value} (q:Mz wt w rb tb cap t i k g s W j kj aj (p::L) T kv vs):Mz wt w rb tb cap t i k g s W j kj aj L T kv vs:=⟨q.dt.pop,q.sz⟩
theorem Mz.xH (q:Mz wt w rb tb cap t i k g s W j kj aj L T kv vs):Mz wt w rb tb cap t i k g s W j kj aj L (vs++T) (J I 0 0) []:=
 ⟨q.dt.xH,λa f=>by have h:=q.sz a f;rw[bL,du];omega⟩
theorem Mz.made {us:List (List Value)} (q:Mz wt w rb tb cap t i k g s W j kj aj L (us++T) (J I 0 0) []) (cs:Array Value) (a:cs.toList=us.flatten) (hl:O us<=20000) (e:∀x∈us,O x=11) {n:Nat} (l:ad=E (U W)) (o:n=O us):
 Mz wt w rb tb cap t i k g s (W.alloc (Ob cs 46)) j kj aj L T (J (some ⟨ad,0,I⟩) n n) us:=
 ⟨q.dt.made cs a hl e l o,λp f=>by
  have h:=(q.alloc (Ob cs 46)).sz p f;rw[bL,du] at h;omega⟩
theorem Mz.fold (q:Mz wt w rb tb cap t i k g s W j kj aj L T kv vs) (hl:O vs<=20000) (e:name.size<=20000) (l:0<=pos/\pos<=7000) (o:kj=0->Gr kind n name (vs.map aA)):Mz wt w rb tb cap t i k g (s+(wt:Int)) W j kj aj L ((ae kind pos n m name kv).toList::T) (J I 0 0) []:=
 ⟨q.dt.fold hl e l o,λa f=>by
  obtain⟨h,p⟩:=q.dt.all;rw[cU,du];have r:=q.sz a f;have z:=cP wt f W vs
  cases f with
  |zero=>
   have u:gh wt 0 W (ae kind pos n m name kv).toList=0:=rfl;rw[u];omega
  |succ f=>
   have v:gh wt (f+1) W (ae kind pos n m name kv).toList=wt+(vs.map (gh wt f W)).sum:=jB q.dt.row (λx y=>p x (.inl y));have A:=q.sz a f;have B:(vs.map (gh wt f W)).sum<=(vs.map (gh wt (f+1) W)).sum:=jm wt f W vs;rw[v];unfold fm at r⊢;omega⟩
end
end
section
variable{c:Array Value} {name:ByteArray} {kind m n pos:Int} {us:List (List Value)} {ad b b' cp gb kc kl r:Nat} {ao ko:Option Addr}
variable{wt:Nat}
section
variable{w W w':World} {rb tb cap i j:Nat} {t:Tk} {k kj aj:Int} {g:Prop} {s:Int} {L:List (Nat × Array Value)} {T:List (List Value)} {kv:Value} {vs:List (List Value)}
theorem Mz.st (q:Mz wt w rb tb cap t i k g s W j kj aj L T kv vs):St w rb tb cap t W j kj aj:=q.dt.st
theorem Mz.le (q:Mz wt w rb tb cap t i k g s W j kj aj L T kv vs):i<=j:=q.dt.le
theorem Mz.ok (q:Mz wt w rb tb cap t i k g s W j kj aj L T kv vs):kj=0->k=0:=q.dt.ok
theorem Mz.go (q:Mz wt w rb tb cap t i k g s W j kj aj L T kv vs):g->kj=0->i<j:=q.dt.go
theorem Mz.at (q:Mz wt w rb tb cap t i k g s W j kj aj L T kv vs) (n:Nat) (d:L[n]? =some (b,c)):(∀a,W.cell? ⟨b,a,I⟩=c[a]?)/\(∀a,W.frozen? ⟨b,a,I⟩=false)/\b<E (U W)/\b≠rb:=q.dt.at n d
theorem Mz.ne (q:Mz wt w rb tb cap t i k g s W j kj aj L T kv vs) (n m:Nat) {a:Array Value} (d:L[n]? =some (b,c)) (e:L[m]? =some (b',a)) (h:n≠m):b≠b'/\b'≠b:=q.dt.ne n m d e h
theorem Mz.shape (q:Mz wt w rb tb cap t i k g s W j kj aj L T kv vs):∃ao cp,kv=J ao (O vs) cp:=q.dt.shape
theorem Mz.kE (q:Mz wt w rb tb cap t i k g s W j kj aj L T (J ao (O vs) cp) vs) (h:1<=O vs):∃gb,ao=some ⟨gb,0,I⟩:=q.dt.kE h
theorem Mz.bd {a:Nat} (q:Mz wt w rb tb cap t i k True s W j kj aj L T kv vs) (e:∀i' k' d,(k'=0->i<i')->d<64->Bd a t i' k' d) (f:r<64):Bd a t j kj r:=q.dt.bd e f
theorem Mz.first (q:Mz wt w rb tb cap t i k g s W j kj aj L T (J ao (O vs) cp) vs) (d:O vs=1):∃gb,ao=some ⟨gb,0,I⟩/\gb<E (U W)/\gb≠rb/\gb∉L.map jb/\∃kind pos n m name ko kl kc,vs=[(ae kind pos n m name (J ko kl kc)).toList]/\∀a,a<11->W.cell? ⟨gb,a,I⟩=(ae kind pos n m name (J ko kl kc))[a]? :=q.dt.first d
theorem Mz.jM (q:Mz wt w rb tb cap t i k g s W j kj aj L T kv vs) (a:b∉L.map jb) (n:Nat) (d:L[n]? =some (b',c)):b≠b'/\b'≠b:=q.dt.jM a n d
theorem Mz.bU (q:Mz wt w rb tb cap t i k g s W j kj aj L T kv vs):Mz wt w rb tb cap t j kj False (16*((j:Int) - (i:Int))+s) W j kj aj L T kv vs:=⟨q.dt.bU,λa d=>oH (q.sz a d)⟩
theorem Mz.aD {i':Nat} {k':Int} {g':Prop} {s':Int} (q:Mz wt w rb tb cap t i k g s W j kj aj L T kv vs) (a:i'<=i) (d:k=0->k'=0) (e:g'->k=0->i'<i) (o:s<=16*((i:Int) - (i':Int))+s'):Mz wt w rb tb cap t i' k' g' s' W j kj aj L T kv vs:=
 ⟨q.dt.aD a d e,λf l=>oH (q.sz f l)⟩
theorem Mz.leaf (q:Mz wt w rb tb cap t i k g s W j kj aj L T kv vs) (e:name.size<=20000) (f:0<=pos/\pos<=7000) (l:kj=0->Gr kind n name []):Mz wt w rb tb cap t i k g (s+(wt:Int)) W j kj aj L ((ae kind pos n m name (J I 0 0)).toList::T) kv vs:=
 ⟨q.dt.leaf e f l,λo a=>by
  have p:=q.sz o a;rw[cU]
  cases a with
  |zero=>
   have d:gh wt 0 W (ae kind pos n m name (J I 0 0)).toList=0:=rfl;rw[d];omega
  |succ a=>
   have d:gh wt (a+1) W (ae kind pos n m name (J I 0 0)).toList=wt:=rfl;rw[d];omega⟩
theorem Mz.lit (q:Mz wt w rb tb cap t i k g s W j kj aj L (us++T) kv vs) (cs:Array Value) (d:cs.toList=us.flatten) (hl:O us<=20000) (f:∀x∈us,O x=11) {c:Nat} (p:ad=E (U W)) (u:c=O us)
 (A:name.size<=20000) (B:0<=pos/\pos<=7000) (v:kj=0->Gr kind n name (us.map aA)):Mz wt w rb tb cap t i k g (s+(wt:Int)) (W.alloc (Ob cs 46)) j kj aj L ((ae kind pos n m name (J (some ⟨ad,0,I⟩) c c)).toList::T) kv vs:=
  ⟨q.dt.lit cs d hl f p u A B v,λe a=>by
   subst p u;have l:=q.alloc (Ob cs 46);have o:=l.sz e a;rw[bL] at o;rw[cU]
   cases a with
   |zero=>
    have C:gh wt 0 (W.alloc (Ob cs 46)) (ae kind pos n m name (J (some ⟨E (U W),0,I⟩) (O us) (O us))).toList=0:=rfl;have N:=cP wt 0 (W.alloc (Ob cs 46)) us;rw[C];omega
   |succ a=>
    obtain⟨h,y⟩:=l.dt.all
    have D:O us.flatten=O us*11:=by
     clear d hl q l v o y;induction us with
     |nil=>rfl
     |cons x r F=>simp only[List.flatten_cons,List.length_append,List.length_cons];rw[F (λG H=>f G (List.mem_cons_of_mem _ H)),f x (List.mem_cons_self ..)];omega
    have z:=World.ownsRow_lit (base:=0) (e:=46) (size:=11) W cs (O us) (zL _) (by unfold maxLen;omega) (by rw[<-Array.length_toList,d,D]);rw[d] at z;have K:gh wt (a+1) (W.alloc (Ob cs 46)) (ae kind pos n m name (J (some ⟨E (U W),0,I⟩) (O us) (O us))).toList=wt+(us.map (gh wt a (W.alloc (Ob cs 46)))).sum:=jB z (λx M=>y x (.inr (List.mem_append.2 (.inl M))));have P:=jm wt a (W.alloc (Ob cs 46)) us;rw[K];unfold fm at o⊢;omega⟩
theorem bI.oV (q:bI w rb tb cap t i k g W j kj aj L T kv vs) (o:W.grownBy w' kv.ownBlock) (f:Nat):fm wt f w' vs=fm wt f W vs/\fm wt f w' T=fm wt f W T:=by
 obtain⟨h,e⟩:=q.all;have l:al (λb=>Out w (L.map jb) kv b/\b<E (U W)) W w':=al.grown o (λb p u=>u.1.2.2 p);constructor
 ·unfold fm;rw[List.map_congr_left (λa d=>f' l _ _ (isNode.low _ _ (e a (.inl d))) f)]
 ·unfold fm;rw[List.map_congr_left (λa d=>f' l _ _ (isNode.low _ _ (e a (.inr d))) f)]
theorem Mz.pT (q:Mz wt w rb tb cap t i k g s W j kj aj L (us++T) kv vs) (S:O vs<=19000) (V:O us<=6010) (d:TypeId) {xv:Value} (e:(xv=J I 0 0/\us=[])\/∃ad c,xv=J (some ad) (O us) c/\∀j u,us.flatten[j]? =some u->W.cell? (ad.add j)=some u):
 ∃f w',(Builtin.append_ #[44,44] d #[kv,xv]).run Tryz.prog W=.ok f w'/\∃ao cp,f=J ao (O vs+O us) cp/\Mz wt w rb tb cap t i k g s w' j kj aj L T (J ao (O vs+O us) cp) (vs++us):=by
 obtain⟨l,o,A,B,C⟩:=info_parts wU;rcases e with⟨rfl,rfl⟩|⟨ad,c,rfl,hc⟩
 ·refine⟨kv,W,run_append_owned_none (P:=Tryz.prog) (w:=W) (E (U w)) 44 d 46 l 11 Tryz.underlying44 o kv (O vs) vs.flatten q.dt.row,?_⟩;obtain⟨ao,cp,a⟩:=q.dt.shape;refine⟨ao,cp,sU a,?_⟩;have p:Mz wt w rb tb cap t i k g s W j kj aj L T kv (vs++[]):=sU q;rw[a] at p;simpa using p
 ·obtain⟨h,D⟩:=q.dt.all;obtain⟨F,G⟩:=rN (us:=us) (λH e=>isNode.ry _ _ (D H (.inr (List.mem_append.2 (.inl e)))));obtain⟨f,w',K,M,v,_,N⟩:=run_append_own_at (P:=Tryz.prog) W (E (U w)) 44 d 46 l _ 11 160 Tryz.underlying44 o A B C Q dC kv (O vs) vs.flatten q.dt.row ad (O us) c us.flatten F hc G (by unfold maxLen;omega) oM q.dt.st.size;have x:=q.dt.app M v N;obtain⟨ao,cp,a⟩:=x.shape;rw[List.length_append] at a;subst a;refine⟨_,w',K,ao,cp,Q,x,λa y=>?_⟩;have R:=q.sz a y;have z:=q.dt.oV (wt:=wt) v y;rw[bL] at R;rw[bL,bL] at z;rw[bL,z.1];omega
theorem Mz.nM (q:Mz wt w rb tb cap t i k g s W j kj aj L ((ae kind pos n m name (J ko kl kc)).toList::T) kv vs) (e:O vs<=19000) (a:TypeId) (f:ad=E (U W)):
 ∃d w',(Builtin.append_ #[44,44] a #[kv,J (some ⟨ad,0,I⟩) 1 1]).run Tryz.prog (W.alloc (Ob (ae kind pos n m name (J ko kl kc)) 46))=.ok d w'/\∃ao cp,d=J ao (O vs+1) cp/\Mz wt w rb tb cap t i k g s w' j kj aj L T (J ao (O vs+1) cp) (vs++[(ae kind pos n m name (J ko kl kc)).toList]):=by
 subst f;exact Mz.pT (us:=[(ae kind pos n m name (J ko kl kc)).toList]) (q.alloc _) e sQ a (.inr ⟨_,_,Q,sU (oA W kind pos n m name (J ko kl kc) 46)⟩)
theorem Mz.gV {f:Nat} {G:Prop} (q:Mz wt w rb tb cap t i k g s W j kj aj L (us++T) kv vs) (hK:Kids f G W (J ao (O us) cp) us) (l:O vs<=19000) (o:O us<=6010) (d:TypeId):
 ∃e w',(Builtin.append_ #[44,44] d #[kv,J ao (O us) cp]).run Tryz.prog W=.ok e w'/\∃ao cp,e=J ao (O vs+O us) cp/\Mz wt w rb tb cap t i k g s w' j kj aj L T (J ao (O vs+O us) cp) (vs++us):=by
 refine q.pT l o d ?_;rcases hK.row.2 with⟨a,p⟩|⟨b,c2,cur,a,_⟩
 ·exact .inl ⟨sU a,List.eq_nil_of_length_eq_zero p⟩
 ·obtain⟨rfl,_,rfl⟩:ao=some ⟨b,0,I⟩/\O us=O us/\cp=c2:=sU a;exact .inr ⟨_,_,Q,hK.row.cells (g:=b) Q⟩
theorem Mz.cC {o:Func} (v:o.results=#[.cell r 46]) {e:Act} (x:e.defers=[]) (y:e.tmps.getD r undef=.pointer (some ⟨b,0,I⟩)) {C:Int->Prop}
 (q:Mz wt w rb tb cap t i k g s W j kj aj L ((ae kind pos n m name (J ko kl kc)).toList::T) kv vs) (f:Nat) (p:L[f]? =some (b,aB)) (z:kj=0->C (aA (ae kind pos n m name (J ko kl kc)).toList)) {d:Int} (M:s+d<=0) {u:World}
 (A:u=Go.Proofs.YtcnnibahjmekdaaGreat.bA W b (.int .i64 kind) (.int .i64 pos) (.int .i64 n) (.int .i64 m) (.string name) (J ko kl kc) (.int .i64 0) (.int .i64 0) (J I 0 0) (J I 0 0) (J I 0 0)):
  bodyPost Tryz.prog o (aY wt w rb tb cap t i k g d C) .ret e u:=by
  subst A;have a:=q.lV f p (.int .i64 kind) (.int .i64 pos) (.int .i64 n) (.int .i64 m) (.string name) (J ko kl kc) (.int .i64 0) (.int .i64 0) (J I 0 0) (J I 0 0) (J I 0 0);have B:dO _ b _:=(a.dt.eG f (b,_) (by rw[List.getElem?_set,if_pos Q,if_pos (gS p).1])).2;obtain⟨h,D⟩:=a.dt.all;refine bodyPost_ret (ji v y B) x ⟨kind,pos,n,m,name,ko,kl,kc,j,kj,aj,Q,⟨a.dt.st.rd,a.dt.st.kp,a.dt.le,a.dt.ok,a.dt.go⟩,⟨h,isNode.weaken (λb F=>F.1) (λG=>G) _ _ (D _ (.inr (List.mem_cons_self ..)))⟩,z,λH l=>?_⟩;have K:=a.sz H l;have N:=cP wt l (bA W b (.int .i64 kind) (.int .i64 pos) (.int .i64 n) (.int .i64 m) (.string name) (J ko kl kc) (.int .i64 0) (.int .i64 0) (J I 0 0) (J I 0 0) (J I 0 0)) vs;have P:=cP wt l (bA W b (.int .i64 kind) (.int .i64 pos) (.int .i64 n) (.int .i64 m) (.string name) (J ko kl kc) (.int .i64 0) (.int .i64 0) (J I 0 0) (J I 0 0) (J I 0 0)) T;rw[cU] at K;omega
theorem Mz.pR {a b:Nat × Array Value} (q:Mz wt w rb tb cap t i k g s W j kj aj (a::b::L) T kv vs):Mz wt w rb tb cap t i k g s W j kj aj (b::a::L) T kv vs:=⟨q.dt.pR,q.sz⟩
theorem Mz.sX (q:Mz wt w rb tb cap t i k g s W j kj aj L T (J (some ⟨gb,0,I⟩) (O vs) cp) vs):∃c,Rest c vs cp/\Mz wt w rb tb cap t i k g s W j kj aj ((gb,c)::L) (vs++T) (J I 0 0) []:=by
 obtain⟨c,a,d⟩:=q.dt.sX;exact⟨c,a,d,λe f=>by have:=q.sz e f;rw[bL,du];omega⟩
theorem Mz.l' (a:Rest c vs cp) (q:Mz wt w rb tb cap t i k g s W j kj aj ((gb,c)::L) (vs++T) (J I 0 0) []):Mz wt w rb tb cap t i k g s W j kj aj L T (J (some ⟨gb,0,I⟩) (O vs) cp) vs:=
 ⟨bI.l' a q.dt,λd e=>by have:=q.sz d e;rw[bL,du] at this;omega⟩
end
end
section
variable{wt:Nat}
def fj (f r N:Nat):Prop:=∀{w:World} {rb tb cap i:Nat} {t:Tk} {k a:Int},Rd w rb tb cap t i k a->Bd N t i k r->Calls Tryz.prog f #[.pointer (some ⟨rb,0,I⟩)] w (aY 1 w rb tb cap t i k True 8 λ_=>True)
def iJ (f r N:Nat):Prop:=∀{w:World} {rb tb cap i:Nat} {t:Tk} {k a:Int},Rd w rb tb cap t i k a->Bd N t i k r->Calls Tryz.prog f #[.pointer (some ⟨rb,0,I⟩)] w (iS 1 w rb tb cap t i k True 0 λ_=>True)
def gz (f r N:Nat):Prop:=∀{w:World} {rb tb cap i:Nat} {t:Tk} {a:Int},Rd w rb tb cap t i 0 a->Bd N t i 0 r->Calls Tryz.prog f #[.pointer (some ⟨rb,0,I⟩)] w (aY 1 w rb tb cap t i 0 True 8 λ_=>True)
def nu (wt N:Nat):Prop:=∀{w:World} {rb tb cap i:Nat} {t:Tk} {k a:Int},Rd w rb tb cap t i k a->Bd N t i k 3->Calls Tryz.prog 81 #[.pointer (some ⟨rb,0,I⟩)] w (aY wt w rb tb cap t i k True 8 cH)
end
section
variable{a k:Int} {N cap i rb tb:Nat} {t:Tk} {w:World}
variable{wt:Nat}
theorem gz.rV {f r:Nat} (b:gz f r N) (c:k=0) (h:Rd w rb tb cap t i k a) (d:Bd N t i k r):Calls Tryz.prog f #[.pointer (some ⟨rb,0,I⟩)] w (aY 1 w rb tb cap t i k True 8 λ_=>True):=by
 subst c;exact b h d
def ue (N:Nat):Prop:=∀{w:World} {rb tb cap i:Nat} {t:Tk} {a:Int},t.kind i=3->Rd w rb tb cap t i 0 a->Bd N t i 0 9->Calls Tryz.prog 102 #[.pointer (some ⟨rb,0,I⟩)] w (aY 1 w rb tb cap t i 0 True 8 λ_=>True)
theorem ue.rV (b:ue N) (c:k=0) (hw:t.kind i=3) (h:Rd w rb tb cap t i k a) (d:Bd N t i k 9):Calls Tryz.prog 102 #[.pointer (some ⟨rb,0,I⟩)] w (aY 1 w rb tb cap t i k True 8 λ_=>True):=by
 subst c;exact b hw h d
def tL (f:Nat) (must:Prop) (C:List Int->Prop):Prop:=∀{w:World} {rb tb cap i:Nat} {t:Tk} {k a:Int},Rd w rb tb cap t i k a->Calls Tryz.prog f #[.pointer (some ⟨rb,0,I⟩)] w (iS 1 w rb tb cap t i k must 0 C)
def mK (wt f:Nat) (must:Prop) (d:Int) (C:Int->Prop):Prop:=∀{w:World} {rb tb cap i:Nat} {t:Tk} {k a:Int},Rd w rb tb cap t i k a->Calls Tryz.prog f #[.pointer (some ⟨rb,0,I⟩)] w (aY wt w rb tb cap t i k must d C)
theorem Mz.dead {W:World} {j:Nat} {b c:Int} {g:Prop} {s s':Int} {d:List (Nat × Array Value)} {T:List (List Value)} {kv:Value} {vs:List (List Value)} (q:Mz wt w rb tb cap t i k g s W j b c d T kv vs) (e:b≠0):Mz wt w rb tb cap t i k g s' W j b c d T kv vs:=⟨q.dt,λf=>absurd f e⟩
end
section
variable{wt:Nat}
theorem Mz.sub {w W:World} {rb a b i j:Nat} {t:Tk} {k c d:Int} {g:Prop} {s:Int} {e:List (Nat × Array Value)} {T T':List (List Value)} {kv:Value} {vs:List (List Value)} (q:Mz wt w rb a b t i k g s W j c d e T kv vs) (l:∀x∈T',x∈T) (m:∀f (X:World),fm wt f X T'<=fm wt f X T):Mz wt w rb a b t i k g s W j c d e T' kv vs:=
 ⟨q.dt.sub l,λn f=>by have o:=q.sz n f;have p:=m f W;omega⟩
end
section
variable{wt:Nat}
structure Nf where
 k:Int
 p:Int
 n:Int
 m:Int
 s:ByteArray
 o:Option Addr
 l:Nat
 c:Nat
abbrev Nf.v (x:Nf):Value:=J x.o x.l x.c
abbrev Nf.a (x:Nf):Array Value:=ae x.k x.p x.n x.m x.s (J x.o x.l x.c)
abbrev Nf.t (x:Nf):List Value:=(ae x.k x.p x.n x.m x.s (J x.o x.l x.c)).toList
abbrev sz (w:World):Nat:=E (U w)
abbrev nl:Value:=J I 0 0
abbrev sl (b n:Nat):Value:=J (some ⟨b,0,I⟩) n n
abbrev nk (k p:Int) (v:Value):Array Value:=ae k p 0 0 ⟨#[]⟩ v
abbrev Fc (W:World) (rb b:Nat) (c:Array Value):Prop:=(∀o,W.cell? ⟨b,o,I⟩=c[o]?)/\(∀o,W.frozen? ⟨b,o,I⟩=false)/\b<E (U W)/\b≠rb/\rb≠b
section
variable{w W w':World} {rb tb cap i j:Nat} {t:Tk} {k kj aj:Int} {g:Prop} {s:Int} {L:List (Nat × Array Value)} {T:List (List Value)} {kv:Value} {vs:List (List Value)} {a b c d:Nat} {x y z u:Array Value}
theorem Mz.fa (q:Mz wt w rb tb cap t i k g s W j kj aj L T kv vs) (n:Nat) {b:Nat} {c:Array Value} (l:L[n]? =some (b,c)):Fc W rb b c:=by
 obtain⟨o,r,A,e⟩:=q.at n l;exact⟨o,r,A,e,λF=>e F.symm⟩
theorem Mz.f1 (q:Mz wt w rb tb cap t i k g s W j kj aj ((a,x)::L) T kv vs):Fc W rb a x:=q.fa 0 Q
theorem Mz.f2 (q:Mz wt w rb tb cap t i k g s W j kj aj ((a,x)::(b,y)::L) T kv vs):Fc W rb a x/\Fc W rb b y/\a≠b/\b≠a:=⟨q.fa 0 Q,q.fa 1 Q,q.ne 0 1 Q Q dC⟩
theorem Mz.f3 (q:Mz wt w rb tb cap t i k g s W j kj aj ((a,x)::(b,y)::(c,z)::L) T kv vs):Fc W rb a x/\Fc W rb b y/\Fc W rb c z/\(a≠b/\b≠a)/\(a≠c/\c≠a)/\b≠c/\c≠b:=⟨q.fa 0 Q,q.fa 1 Q,q.fa 2 Q,q.ne 0 1 Q Q dC,q.ne 0 2 Q Q dC,q.ne 1 2 Q Q dC⟩
theorem Mz.f4 (q:Mz wt w rb tb cap t i k g s W j kj aj ((a,x)::(b,y)::(c,z)::(d,u)::L) T kv vs):Fc W rb a x/\Fc W rb b y/\Fc W rb c z/\Fc W rb d u/\(a≠b/\b≠a)/\(a≠c/\c≠a)/\(b≠c/\c≠b)/\(a≠d/\d≠a)/\(b≠d/\d≠b)/\c≠d/\d≠c:=⟨q.fa 0 Q,q.fa 1 Q,q.fa 2 Q,q.fa 3 Q,q.ne 0 1 Q Q dC,q.ne 0 2 Q Q dC,q.ne 1 2 Q Q dC,q.ne 0 3 Q Q dC,q.ne 1 3 Q Q dC,q.ne 2 3 Q Q dC⟩
variable{b0 b1 b2 b3:Nat} {c0 c1 c2 c3:Array Value} {ki po n m:Int} {na:ByteArray} {v:Value}
theorem Mz.fE (q:Mz wt w rb tb cap t i k g s W j kj aj ((b,ae ki po n m na v)::L) T kv vs) (X:Int):Mz wt w rb tb cap t i k g s (W.setCell ⟨b,0,I⟩ (.int .i64 X)) j kj aj ((b,ae X po n m na v)::L) T kv vs:=q.put 0 Q 0 (.int .i64 X)
theorem Mz.jW (q:Mz wt w rb tb cap t i k g s W j kj aj ((b,ae ki po n m na v)::L) T kv vs) (X:Int):Mz wt w rb tb cap t i k g s (W.setCell ⟨b,2,I⟩ (.int .i64 X)) j kj aj ((b,ae ki po X m na v)::L) T kv vs:=q.put 0 Q 2 (.int .i64 X)
theorem Mz.vh (q:Mz wt w rb tb cap t i k g s W j kj aj ((b,ae ki po n m na v)::L) T kv vs) (X:Int):Mz wt w rb tb cap t i k g s (W.setCell ⟨b,3,I⟩ (.int .i64 X)) j kj aj ((b,ae ki po n X na v)::L) T kv vs:=q.put 0 Q 3 (.int .i64 X)
theorem Mz.gI (q:Mz wt w rb tb cap t i k g s W j kj aj ((b,ae ki po n m na v)::L) T kv vs) (X:ByteArray):Mz wt w rb tb cap t i k g s (W.setCell ⟨b,4,I⟩ (.string X)) j kj aj ((b,ae ki po n m X v)::L) T kv vs:=q.put 0 Q 4 (.string X)
theorem Mz.ek (q:Mz wt w rb tb cap t i k g s W j kj aj ((b,ae ki po n m na v)::L) T kv vs) (X:Value):Mz wt w rb tb cap t i k g s (W.setCell ⟨b,5,I⟩ (X)) j kj aj ((b,ae ki po n m na X)::L) T kv vs:=q.put 0 Q 5 (X)
theorem Mz.zh (q:Mz wt w rb tb cap t i k g s W j kj aj ((b,ae ki po n m na v)::L) T kv vs) (K P e M:Int) (l:ByteArray) (o:Value):Mz wt w rb tb cap t i k g s (bA W b (.int .i64 K) (.int .i64 P) (.int .i64 e) (.int .i64 M) (.string l) o (.int .i64 0) (.int .i64 0) nl nl nl) j kj aj ((b,ae K P e M l o)::L) T kv vs:=q.lV 0 Q _ _ _ _ _ _ _ _ _ _ _
theorem Mz.rr (q:Mz wt w rb tb cap t i k g s W j kj aj ((b0,c0)::(b,ae ki po n m na v)::L) T kv vs) (X:Int):Mz wt w rb tb cap t i k g s (W.setCell ⟨b,2,I⟩ (.int .i64 X)) j kj aj ((b0,c0)::(b,ae ki po X m na v)::L) T kv vs:=q.put 1 Q 2 (.int .i64 X)
theorem Mz.pX (q:Mz wt w rb tb cap t i k g s W j kj aj ((b0,c0)::(b,ae ki po n m na v)::L) T kv vs) (X:ByteArray):Mz wt w rb tb cap t i k g s (W.setCell ⟨b,4,I⟩ (.string X)) j kj aj ((b0,c0)::(b,ae ki po n m X v)::L) T kv vs:=q.put 1 Q 4 (.string X)
theorem Mz.iW (q:Mz wt w rb tb cap t i k g s W j kj aj ((b0,c0)::(b,ae ki po n m na v)::L) T kv vs) (X:Value):Mz wt w rb tb cap t i k g s (W.setCell ⟨b,5,I⟩ (X)) j kj aj ((b0,c0)::(b,ae ki po n m na X)::L) T kv vs:=q.put 1 Q 5 (X)
theorem Mz.nh (q:Mz wt w rb tb cap t i k g s W j kj aj ((b0,c0)::(b,ae ki po n m na v)::L) T kv vs) (K P e M:Int) (l:ByteArray) (o:Value):Mz wt w rb tb cap t i k g s (bA W b (.int .i64 K) (.int .i64 P) (.int .i64 e) (.int .i64 M) (.string l) o (.int .i64 0) (.int .i64 0) nl nl nl) j kj aj ((b0,c0)::(b,ae K P e M l o)::L) T kv vs:=q.lV 1 Q _ _ _ _ _ _ _ _ _ _ _
theorem Mz.yS (q:Mz wt w rb tb cap t i k g s W j kj aj ((b0,c0)::(b1,c1)::(b,ae ki po n m na v)::L) T kv vs) (X:Int):Mz wt w rb tb cap t i k g s (W.setCell ⟨b,2,I⟩ (.int .i64 X)) j kj aj ((b0,c0)::(b1,c1)::(b,ae ki po X m na v)::L) T kv vs:=q.put 2 Q 2 (.int .i64 X)
theorem Mz.yR (q:Mz wt w rb tb cap t i k g s W j kj aj ((b0,c0)::(b1,c1)::(b,ae ki po n m na v)::L) T kv vs) (X:ByteArray):Mz wt w rb tb cap t i k g s (W.setCell ⟨b,4,I⟩ (.string X)) j kj aj ((b0,c0)::(b1,c1)::(b,ae ki po n m X v)::L) T kv vs:=q.put 2 Q 4 (.string X)
theorem Mz.rU (q:Mz wt w rb tb cap t i k g s W j kj aj ((b0,c0)::(b1,c1)::(b,ae ki po n m na v)::L) T kv vs) (X:Value):Mz wt w rb tb cap t i k g s (W.setCell ⟨b,5,I⟩ (X)) j kj aj ((b0,c0)::(b1,c1)::(b,ae ki po n m na X)::L) T kv vs:=q.put 2 Q 5 (X)
theorem Mz.zG (q:Mz wt w rb tb cap t i k g s W j kj aj ((b0,c0)::(b1,c1)::(b2,c2)::(b,ae ki po n m na v)::L) T kv vs) (X:Value):Mz wt w rb tb cap t i k g s (W.setCell ⟨b,5,I⟩ (X)) j kj aj ((b0,c0)::(b1,c1)::(b2,c2)::(b,ae ki po n m na X)::L) T kv vs:=q.put 3 Q 5 (X)
theorem Mz.ne' (q:Mz wt w rb tb cap t i k g s W j kj aj L T kv vs) (ad:Nat) (c:Array Value) (e:ad=E (U W):=by simp):Mz wt w rb tb cap t i k g s (W.alloc (Ob c 46)) j kj aj ((ad,c)::L) T kv vs:=q.newAt e c
theorem Mz.m1 (q:Mz wt w rb tb cap t i k g s W j kj aj L ((ae ki po n m na v).toList::T) nl []) (ad:Nat) (e:ad=E (U W):=by simp):Mz wt w rb tb cap t i k g s (W.alloc (Ob (ae ki po n m na v) 46)) j kj aj L T (sl ad 1) [(ae ki po n m na v).toList]:=Mz.made (us:=[(ae ki po n m na v).toList]) (T:=T) q _ sQ sQ sQ e Q
theorem Mz.fo (q:Mz wt w rb tb cap t i k g s W j kj aj L T kv vs) (ki po n m:Int) (na:ByteArray) (hl:O vs<=20000) (e:0<=po/\po<=7000) (l:na.size<=20000:=by decide) (o:kj=0->Gr ki n na (vs.map aA):=by exact λ_=>Gr.free (.inl dC)):Mz wt w rb tb cap t i k g (s+(wt:Int)) W j kj aj L ((ae ki po n m na kv).toList::T) nl []:=q.fold hl l e o
theorem Mz.fk (q:Mz wt w rb tb cap t i k g s W j kj aj L T kv vs) (ki po:Int) (hl:O vs<=20000) (e:0<=po/\po<=7000) (l:kj=0->Gr ki 0 ⟨#[]⟩ (vs.map aA):=by exact λ_=>Gr.free (.inl dC)):Mz wt w rb tb cap t i k g (s+(wt:Int)) W j kj aj L ((nk ki po kv).toList::T) nl []:=q.fold hl dC e l
theorem Mz.lk (q:Mz wt w rb tb cap t i k g s W j kj aj L T kv vs) (ki po n m:Int) (na:ByteArray) (e:0<=po/\po<=7000) (l:na.size<=20000:=by decide) (o:kj=0->Gr ki n na []:=by exact λ_=>Gr.free (.inl dC)):Mz wt w rb tb cap t i k g (s+(wt:Int)) W j kj aj L ((ae ki po n m na nl).toList::T) kv vs:=q.leaf l e o
variable{f:Nat} {args:Array Value} {R:Value} {Qz:Ending->World->Prop}
theorem Mz.lf (q:Mz wt w rb tb cap t i k g s W j kj aj L T kv vs) (h:Rd W rb tb cap t j kj aj->Calls Tryz.prog f args W λe w'=>e=.returned R/\Below (E (U W)) W w') (K:∀w',Mz wt w rb tb cap t i k g s w' j kj aj L T kv vs->Qz (.returned R) w'):Calls Tryz.prog f args W Qz:=(h q.st.rd).mono λe w' p=>p.1▸K w' (q.below p.2)
theorem Mz.wn (q:Mz wt w rb tb cap t i k g s W j kj aj L T kv vs) (h:Rd W rb tb cap t j kj aj->Calls Tryz.prog f args W λe w'=>e=.returned R/\∃i' k' l,Nx W rb tb cap t j kj True w' i' k' l) (K:∀w' i' k' l,Hid (k'=0->kj=0)->Mz wt w rb tb cap t i k True (s - 16) w' i' k' l L T kv vs->Qz (.returned R) w'):Calls Tryz.prog f args W Qz:=(h q.st.rd).mono λe w' p=>by
 obtain⟨rfl,i',k',l,o⟩:=p;exact K w' i' k' l o.ok (q.qi o)
variable{kx px nx mx ky py ny my:Int} {ax ay:ByteArray} {vx vy:Value}
theorem Mz.l1 (q:Mz wt w rb tb cap t i k g s W j kj aj L ((ae kx px nx mx ax vx).toList::T) kv vs) (ad:Nat) (ki po n m:Int) (na:ByteArray) (e:0<=po/\po<=7000) (l:na.size<=20000:=by decide) (o:kj=0->Gr ki n na ([(ae kx px nx mx ax vx).toList].map aA):=by exact λ_=>Gr.free (.inl dC)) (r:ad=E (U W):=by simp):Mz wt w rb tb cap t i k g (s+(wt:Int)) (W.alloc (Ob (ae kx px nx mx ax vx) 46)) j kj aj L ((ae ki po n m na (sl ad 1)).toList::T) kv vs:=Mz.lit (us:=[(ae kx px nx mx ax vx).toList]) (T:=T) q _ sQ sQ sQ r Q l e o
theorem Mz.l2 (q:Mz wt w rb tb cap t i k g s W j kj aj L ((ae kx px nx mx ax vx).toList::(ae ky py ny my ay vy).toList::T) kv vs) (ad:Nat) (ki po n m:Int) (na:ByteArray) (e:0<=po/\po<=7000) (l:na.size<=20000:=by decide) (o:kj=0->Gr ki n na ([(ae kx px nx mx ax vx).toList,(ae ky py ny my ay vy).toList].map aA):=by exact λ_=>Gr.free (.inl dC)) (r:ad=E (U W):=by simp):Mz wt w rb tb cap t i k g (s+(wt:Int)) (W.alloc (Ob (mJ kx px nx mx ax vx ky py ny my ay vy) 46)) j kj aj L ((ae ki po n m na (sl ad 2)).toList::T) kv vs:=Mz.lit (us:=[(ae kx px nx mx ax vx).toList,(ae ky py ny my ay vy).toList]) (T:=T) q (mJ kx px nx mx ax vx ky py ny my ay vy) sQ sQ sQ r Q l e o
theorem Mz.m2 (q:Mz wt w rb tb cap t i k g s W j kj aj L ((ae kx px nx mx ax vx).toList::(ae ky py ny my ay vy).toList::T) nl []) (ad:Nat) (e:ad=E (U W):=by simp):Mz wt w rb tb cap t i k g s (W.alloc (Ob (mJ kx px nx mx ax vx ky py ny my ay vy) 46)) j kj aj L T (sl ad 2) [(ae kx px nx mx ax vx).toList,(ae ky py ny my ay vy).toList]:=Mz.made (us:=[(ae kx px nx mx ax vx).toList,(ae ky py ny my ay vy).toList]) (T:=T) q (mJ kx px nx mx ax vx ky py ny my ay vy) sQ sQ sQ e Q
variable{B:Nat} {P:ByteArray->Prop}
theorem Mz.nm (q:Mz wt w rb tb cap t i k g s W j kj aj L T kv vs) (h:Rd W rb tb cap t j kj aj->Calls Tryz.prog f args W λe w'=>∃x,e=.returned (.string x)/\x.size<=B/\∃i' k' l,Nx W rb tb cap t j kj True w' i' k' l/\(k'=0->P x)) (K:∀w' x i' k' l,x.size<=B->(k'=0->P x)->Hid (k'=0->kj=0)->Mz wt w rb tb cap t i k True (s - 16) w' i' k' l L T kv vs->Qz (.returned (.string x)) w'):Calls Tryz.prog f args W Qz:=(h q.st.rd).mono λe w' p=>by
 obtain⟨x,rfl,r,i',k',l,o,A⟩:=p;exact K w' x i' k' l r A o.ok (q.qi o)
variable{xs:ByteArray}
theorem Mz.et (q:Mz wt w rb tb cap t i k g s W j kj aj L T kv vs) (h:Rd W rb tb cap t j kj aj->Calls Tryz.prog f args W λe w'=>∃b i',e=.returned (.bool b)/\oK t xs j kj b i'/\Rd w' rb tb cap t i' kj aj/\Kp (E (U W)) rb W w') (K:∀w' b i',oK t xs j kj b i'->Mz wt w rb tb cap t i k g s w' i' kj aj L T kv vs->Qz (.returned (.bool b)) w'):Calls Tryz.prog f args W Qz:=(h q.st.rd).mono λe w' p=>by
 obtain⟨b,i',rfl,l,o,r⟩:=p;exact K w' b i' l (q.rk o r l.le (λe=>e))
theorem Mz.ey (q:Mz wt w rb tb cap t i k g s W j kj aj L T kv vs) (h:Rd W rb tb cap t j kj aj->Calls Tryz.prog f args W λe w'=>e=.returned R/\Nx W rb tb cap t j kj True w' (j+1) kj aj) (K:∀w',Mz wt w rb tb cap t i k True (s - 16) w' (j+1) kj aj L T kv vs->Qz (.returned R) w'):Calls Tryz.prog f args W Qz:=(h q.st.rd).mono λe w' p=>p.1▸K w' (q.qi p.2)
variable{D:Int} {C:Int->Prop} {Ez:List Int->Prop} {must:Prop}
theorem Mz.nd (q:Mz wt w rb tb cap t i k g s W j kj aj L T kv vs) (h:Rd W rb tb cap t j kj aj->Calls Tryz.prog f args W (aY wt W rb tb cap t j kj True D C)) (K:∀w' (x:Nf) i' k' e,(k'=0->C (aA x.t))->Hid (k'=0->kj=0)->Mz wt w rb tb cap t i k True (s - D) w' i' k' e L (x.t::T) kv vs->Qz (.returned (.agg x.a)) w'):Calls Tryz.prog f args W Qz:=(h q.st.rd).mono λZ w' p=>by
 obtain⟨o,r,A,F,G,H,M,N,i',k',e,rfl,l,V,X,Y⟩:=p;exact K w' ⟨o,r,A,F,G,H,M,N⟩ i' k' e X l.ok (q.tH l V Y)
theorem Mz.nn (q:Mz wt w rb tb cap t i k g s W j kj aj L T kv vs) (h:Rd W rb tb cap t j kj aj->Calls Tryz.prog f args W (aY wt W rb tb cap t j kj must D C)) (K:∀w' (x:Nf) i' k' e,(k'=0->C (aA x.t))->Hid (k'=0->kj=0)->Mz wt w rb tb cap t i k g (s - D) w' i' k' e L (x.t::T) kv vs->Qz (.returned (.agg x.a)) w'):Calls Tryz.prog f args W Qz:=(h q.st.rd).mono λZ w' p=>by
 obtain⟨o,r,A,F,G,H,M,N,i',k',e,rfl,l,V,X,Y⟩:=p;exact K w' ⟨o,r,A,F,G,H,M,N⟩ i' k' e X l.ok (q.node l V Y)
theorem Mz.li (q:Mz wt w rb tb cap t i k g s W j kj aj L T nl []) (h:Rd W rb tb cap t j kj aj->Calls Tryz.prog f args W (iS wt W rb tb cap t j kj True D Ez)) (K:∀w' l o e i' k' r,O e<=6002->(k'=0->Ez (e.map aA))->Hid (k'=0->kj=0)->Mz wt w rb tb cap t i k True (s - D) w' i' k' r L T (J l (O e) o) e->Qz (.returned (J l (O e) o)) w'):Calls Tryz.prog f args W Qz:=(h q.st.rd).mono λF w' p=>by
 obtain⟨l,o,e,i',k',r,rfl,A,hK,G,H,M⟩:=p;exact K w' l o e i' k' r G H A.ok ((q.list A hK M).up (λ_ F=>Nat.lt_of_le_of_lt q.le (A.go trivial F)))
theorem Mz.ln (q:Mz wt w rb tb cap t i k g s W j kj aj L T nl []) (h:Rd W rb tb cap t j kj aj->Calls Tryz.prog f args W (iS wt W rb tb cap t j kj must D Ez)) (K:∀w' l o e i' k' r,O e<=6002->(k'=0->Ez (e.map aA))->Hid (k'=0->kj=0)->Mz wt w rb tb cap t i k g (s - D) w' i' k' r L T (J l (O e) o) e->Qz (.returned (J l (O e) o)) w'):Calls Tryz.prog f args W Qz:=(h q.st.rd).mono λM w' p=>by
 obtain⟨l,o,e,i',k',r,rfl,A,hK,F,G,H⟩:=p;exact K w' l o e i' k' r F G A.ok (q.list A hK H)
variable{ko ro:Option Addr} {kl kc rl rc:Nat} {ops:Array Oper} {rest:List Oper} {p:Oper} {act:Act} {S:Exit->Act->World->Prop} {sv xo:Operand}
theorem Mz.ap (q:Mz wt w rb tb cap t i k g s W j kj aj L ((ae ki po n m na (J ko kl kc)).toList::T) (J ro rl rc) vs) (ad:Nat) (o:O vs<=19000) (K:∀w' e l,Mz wt w rb tb cap t i k g s w' j kj aj L T (J e (rl+1) l) (vs++[(ae ki po n m na (J ko kl kc)).toList])->wpList Tryz.prog ops S rest (act.put p.dst (J e (rl+1) l)) w') (r:p.guard=I:=by rfl) (A:p.op=.call {callee:=.builtin .append,args:=#[sv,xo],argTypes:=#[44,44]}:=by rfl) (F:act.eval sv=J ro rl rc:=by rfl) (G:act.eval xo=sl ad 1:=by rfl) (H:ad=E (U W):=by simp):wpList Tryz.prog ops S (p::rest) act (W.alloc (Ob (ae ki po n m na (J ko kl kc)) 46)):=
 by
 obtain⟨M,N,V⟩:=q.shape;obtain⟨rfl,rfl,rfl⟩:ro=M/\rl=O vs/\rc=N:=sU V;refine oP r A F G (Mz.nM q o _ H) λY w' h=>?_;obtain⟨e,l,rfl,X⟩:=h;exact K w' e l X
variable{Kk:Act->World->Prop} {Ee:Prop}
theorem Mz.as (q:Mz wt w rb tb cap t i k g s W j kj aj L ((ae ki po n m na (J ko kl kc)).toList::T) (J ro rl rc) vs) (ad:Nat) (o:O vs<=19000) (K:∀w' e l,Mz wt w rb tb cap t i k g s w' j kj aj L T (J e (rl+1) l) (vs++[(ae ki po n m na (J ko kl kc)).toList])->Kk (act.put p.dst (J e (rl+1) l)) w') (r:p.guard=I:=by rfl) (A:p.op=.call {callee:=.builtin .append,args:=#[sv,xo],argTypes:=#[44,44]}:=by rfl) (F:act.eval sv=J ro rl rc:=by rfl) (G:act.eval xo=sl ad 1:=by rfl) (H:ad=E (U W):=by simp):if Region.wanted p (yielded ops act.tmps)=true then Oper.wp Tryz.prog p act (W.alloc (Ob (ae ki po n m na (J ko kl kc)) 46)) Kk S else Ee:=
 by
 obtain⟨M,N,V⟩:=q.shape;obtain⟨rfl,rfl,rfl⟩:ro=M/\rl=O vs/\rc=N:=sU V;refine jh r A F G (Mz.nM q o _ H) λY w' h=>?_;obtain⟨e,l,rfl,X⟩:=h;exact K w' e l X
theorem Mz.rt {e:Func} {r:Nat} (q:Mz wt w rb tb cap t i k g s W j kj aj L ((ae ki po n m na (J ko kl kc)).toList::T) kv vs) (A:e.results=#[.cell r 46]) (l:Nat) {o:World} {b:Nat} (F:o=bA W b (.int .i64 ki) (.int .i64 po) (.int .i64 n) (.int .i64 m) (.string na) (J ko kl kc) (.int .i64 0) (.int .i64 0) nl nl nl:=by rfl) (G:act.defers=[]:=by rfl) (H:act.tmps.getD r undef=.pointer (some ⟨b,0,I⟩):=by rfl) (K:L[l]? =some (b,aB):=by rfl) (M:s+8<=0:=by omega):bodyPost Tryz.prog e (aY wt w rb tb cap t i k g 8 λ_=>True) .ret act o:=Mz.cC A G H q l K (λ_=>trivial) M F
end
end
section
variable{wt:Nat}
theorem Mz.post {w W:World} {rb b c i j:Nat} {t:Tk} {k a e:Int} {g:Prop} {s:Int} {m:List (Nat × Array Value)} {T:List (List Value)} {kv:Value} {vs:List (List Value)} (q:Mz wt w rb b c t i k g s W j a e m T kv vs) {f:Prop} {d:Int} {C:List Int->Prop} (n:f->g) (hl:O vs<=6002) (o:a=0->C (vs.map aA)) (x:s+d<=0):iS wt w rb b c t i k f d C (.returned kv) W:=by
 obtain⟨p,r,rfl⟩:=q.shape;refine⟨p,r,vs,j,a,e,Q,⟨q.st.rd,q.st.kp,q.le,q.ok,λu=>q.go (n u)⟩,q.dt.kids,hl,o,λv l=>?_⟩;have y:=q.sz v l;have z:=cP wt l W T;omega
end
section
variable{wt:Nat}
def qO (wt N:Nat):Prop:=∀{w:World} {rb tb cap i:Nat} {t:Tk} {k a:Int},Rd w rb tb cap t i k a->Bd N t i k 4->∀s,Calls Tryz.prog 82 #[.pointer (some ⟨rb,0,I⟩),.string s] w (iS wt w rb tb cap t i k True 0 λks=>∀x∈ks,cH x)
def sP (wt N:Nat):Prop:=∀{w:World} {rb tb cap i:Nat} {t:Tk} {k a:Int},Rd w rb tb cap t i k a->k=0->i+1<t.len->Bd N t i k 2->Calls Tryz.prog 98 #[.pointer (some ⟨rb,0,I⟩)] w (aY wt w rb tb cap t i k True 8 cH)
def qw (wt N:Nat):Prop:=∀{w:World} {rb tb cap i:Nat} {t:Tk} {k a:Int},Rd w rb tb cap t i k a->Bd N t i k 4->Calls Tryz.prog 99 #[.pointer (some ⟨rb,0,I⟩)] w (iS wt w rb tb cap t i k True 0 lQ)
end
section
variable{wt:Nat}
theorem Mz.pC {w W w':World} {rb c e i j:Nat} {t:Tk} {k l v:Int} {g:Prop} {s:Int} {o:List (Nat × Array Value)} {T:List (List Value)} {kv:Value} {vs:List (List Value)} (q:Mz wt w rb c e t i k g s W j l v o T kv vs) {x:Prop} {i':Nat} {k' p:Int} (y:Nx W rb c e t j l x w' i' k' p) {kind pos n m:Int} {name:ByteArray} {a:Value} {b:List (List Value)} (z:eC (E (U W)) (k'=0) w' (ae kind pos n m name a).toList) (hK:Kids (E (U W)) (k'=0) w' a b) {d:Int} (r:k'=0->∀f,fm wt f w' b+d<=16*((i':Int) - (j:Int))):Mz wt w rb c e t i k g (s - (d - (wt:Int))) w' i' k' p o ((ae kind pos n m name a).toList::T) kv vs:=by
 refine q.node y z (λu f=>?_);obtain⟨A,h,B⟩:=hK
 cases f with
 |zero=>
  have G:=r u 0;have C:gh wt 0 w' (ae kind pos n m name a).toList=0:=rfl;have H:=cP wt 0 w' b;rw[C];omega
 |succ f=>
  have D:gh wt (f+1) w' (ae kind pos n m name a).toList=wt+(b.map (gh wt f w')).sum:=jB A B;have F:=r u f;rw[D];unfold fm at F;omega
end
section
section
variable{P:Program} {md:Region.Mode} {ops:Array Oper} {Qz:Exit->Act->World->Prop} {S:World->Prop} {fuel:Nat} {listed ls:Array Bool} {a b:Act} {w:World} {oi oj:Oper}
theorem aK (i:Nat) {v:Value} (h:wpAnyH P md ops Qz S fuel ls b w) (d:ops[i]? =some oi:=by simp only[List.getElem?_toArray,List.getElem?_cons_succ,List.getElem?_cons_zero];rfl) (e:Region.noSelect ops=true:=by as_aux_lemma=>kernel_rfl) (f:Region.free md ops listed i=true:=by as_aux_lemma=>kernel_rfl) (j:(Region.ready md ops listed).contains i=true:=by as_aux_lemma=>kernel_rfl) (k:∀c a w,Qz (.panic c) (a.put oi.dst v) w->Qz (.panic c) a w:=by exact λ_ _ _ h=>h) (hw:Region.wanted oi (yielded ops a.tmps)=true:=by rfl) (l:∀w,S w->(execOp a.eval oi).run P w=.ok (.value v) w:=by(intro w hSw;(try dsimp only at hSw);go_simp<;>with_reducible rfl)) (hl:listed.setIfInBounds i true=ls:=by first|(simp only[List.setIfInBounds_toArray,List.set_cons_zero,List.set_cons_succ];rfl)|rfl) (m:a.put oi.dst v=b:=by first|(simp only[Act.put,List.setIfInBounds_toArray,List.set_cons_zero,List.set_cons_succ];rfl)|rfl) (hS:S w:=by assumption):wpAnyH P md ops Qz S (fuel+1) listed a w:=by
 subst hl m;exact wpAnyH_take d e f j k (Or.inl ⟨hw,l⟩) hS h
theorem eJ (i:Nat) (h:∀K:Act->World->Prop,Shut (∀a w,S w->(S w->wpAnyH P md ops Qz S fuel (listed.setIfInBounds i true) a w)->K a w)->if Region.wanted oi (yielded ops a.tmps)=true then Oper.wp P oi a w K Qz else K (a.put oi.dst undef) w) (c:ops[i]? =some oi:=by simp only[List.getElem?_toArray,List.getElem?_cons_succ,List.getElem?_cons_zero];rfl) (d:Region.ready md ops listed=[i]:=by as_aux_lemma=>kernel_rfl):wpAnyH P md ops Qz S (fuel+1) listed a w:=wpAnyH_ready d sQ (AllReadyH.cons c h AllReadyH.nil)
theorem pU (i j:Nat) (h:∀K:Act->World->Prop,Shut (∀a w,S w->(S w->wpAnyH P md ops Qz S fuel (listed.setIfInBounds i true) a w)->K a w)->if Region.wanted oi (yielded ops a.tmps)=true then Oper.wp P oi a w K Qz else K (a.put oi.dst undef) w) (c:∀K:Act->World->Prop,Shut (∀a w,S w->(S w->wpAnyH P md ops Qz S fuel (listed.setIfInBounds j true) a w)->K a w)->if Region.wanted oj (yielded ops a.tmps)=true then Oper.wp P oj a w K Qz else K (a.put oj.dst undef) w) (d:ops[i]? =some oi:=by simp only[List.getElem?_toArray,List.getElem?_cons_succ,List.getElem?_cons_zero];rfl) (e:ops[j]? =some oj:=by simp only[List.getElem?_toArray,List.getElem?_cons_succ,List.getElem?_cons_zero];rfl) (f:Region.ready md ops listed=[i,j]:=by as_aux_lemma=>kernel_rfl):wpAnyH P md ops Qz S (fuel+1) listed a w:=wpAnyH_ready f sQ (AllReadyH.cons d h (AllReadyH.cons e c AllReadyH.nil))
theorem dV {K:Act->World->Prop} (hK:Shut (∀a w,S w->(S w->wpAnyH P md ops Qz S fuel listed a w)->K a w)) (h:S w->wpAnyH P md ops Qz S fuel ls b w) (hl:listed=ls:=by first|(simp only[List.setIfInBounds_toArray,List.set_cons_zero,List.set_cons_succ];rfl)|rfl) (c:a=b:=by first|(simp only[Act.put,List.setIfInBounds_toArray,List.set_cons_zero,List.set_cons_succ];rfl)|rfl) (hS:S w:=by first|trivial|((try dsimp only);first|assumption|exact KB.out ((Below.refl _ _).drew)|exact KB.out ((al1 _ _).1.drew)|exact KS10|exact KS11|exact KB29.out|exact hS12|exact hS13)):K a w:=by
 subst hl c;exact hK.out _ _ hS h
end
end
theorem wZ {m:Nat} (D:fj 88 18 m):iJ 101 19 (m+1):=by
 intro w p q r j t f F h s;have X:=h.l;have G:Hid (Bd (m+1) t j f 19):=s;clear s;go_enter Tryz.func101,Tryz.ntmps101
 have a:=Mz.start (wt:=1) h;go_wp2_with fail;refine a.et (aR · _) ?_;clear a;intro Y H u K a;go_wp2_with fail
 ·go_wp2_with fail;go_ret;exact Mz.post (d:=0) (a.up (g':=True) (λ_ _=>oH (K.yes ‹_›).1)) (λ_=>trivial) sQ (λ_=>trivial) oM
 ·obtain rfl:H=false:= ‹_›;go_wp2_with fail;go_loopg [3] (ml t u f) (λg L wr=>∃(c:List (List Value)) (b:Nat) (e n:Int),g=ml t b e/\ez 0 c b e/\(e=0->(λ_=>True) (c.map aA))/\Mz 1 w p q r t j f False (0) wr b e n [] [] L c)
  case atStart=>exact⟨[],u,f,F,Q,⟨λ_=>by simp,sQ⟩,(λi=>trivial),(a.up (λk=>k.elim)).less oM⟩
  case round=>
   clear a;obtain⟨c,b,e,n,v,hF,x,a⟩:=hrel;have y:Hid (e=0->(λ_=>True) (c.map aA)):=x;clear x;have z:=a.st.rd.lt;have Z:(0:Int)<=(t.pos b:Int)/\(t.pos b:Int)<=7000:=oH (h.ar.aO b);have M:Hid (gk=ml t b e):=v;clear v;obtain⟨N,P,rfl⟩:=a.shape
   cases o:(e==0)
   ·go_wp2_with fail;refine a.lf aV ?_;clear a;intro aa a;go_wp2_with fail;go_ret;exact Mz.post (d:=0) (a.up (g':=True) (λ_ i=>absurd i (sU o))) (λ_=>trivial) hF.2 (λi=>absurd i (sU o)) oM
   ·obtain rfl:e=0:=sU o;have l:Hid (j<=b/\f=0):=⟨a.le,a.ok Q⟩;replace y:Hid ((λ_=>True) (c.map aA)):=y.out Q;have R:Hid (∀i' k',b<=i'->Bd m t i' k' 18):=λi' k' A=>G.out.down (lT a.le A) (λ_=>a.ok Q) dC;have S:O c<=6001:=oI (hF.1 Q) h.ar.bB;replace a:Mz 1 w p q r t b 0 False (16*((b:Int) - (j:Int))+(0)) wr b 0 n [] [] (J N (O c) P) c:=a.bU.less oM;go_wp2_with fail;refine a.lf aV ?_;clear a;intro ab a;go_wp2_with fail;refine a.nd (D · (R.out _ _ a.le)) ?_;clear a;intro T V ac ad ae af _ a;go_wp2_with (at_builtin;refine a.ap (sz T) (lT S dC) ?_;clear a;intro ag ah ai a)
    go_wp2_with fail;refine a.et (aR · _) ?_;clear a;intro aj ak al ao a;go_wp2_with fail
    ·go_wp2_with fail;go_ret;exact Mz.post (d:=0) ((a.aD (i':=j) (k':=f) (g':=False) (s':= -8) l.out.1 (λ_=>l.out.2) (λk=>k.elim) oM).up (g':=True) (λ_ i=>Nat.lt_of_le_of_lt l.out.1 (a.go trivial i))) (λ_=>trivial) (by have A:=hF.1 rfl;have ap:=h.ar.bB;simp only[List.length_append,List.length_cons,List.length_nil];omega) (λ_=>trivial) oM
    ·go_wp2_with fail;refine a.wn (aH · _) ?_;clear a;intro aq B C W ar a;go_wp2_with fail;go_roundg (ml t B C)
     case measure=>rw[M.out];exact bO z a.le (a.go trivial)
     case rel=>exact⟨(c++[V.t]),B,C,W,Q,ez.snoc (t:=t) hF Q z h.ar (a.go trivial),(λ_=>trivial),a.aD (s':=0) l.out.1 (λ_=>l.out.2) (λk=>k.elim) oM⟩
theorem xW {m:Nat} (D:fj 113 3 m):iJ 115 4 (m+1):=by
 intro w p q r j t f F h s;have X:=h.l;have G:Hid (Bd (m+1) t j f 4):=s;clear s;go_enter Tryz.func115,Tryz.ntmps115
 have a:=Mz.start (wt:=1) h;go_wp2_with fail;refine a.et (aR · _) ?_;clear a;intro Y H u K a;go_wp2_with fail
 ·go_wp2_with fail;go_ret;exact Mz.post (d:=0) (a.up (g':=True) (λ_ _=>oH (K.yes ‹_›).1)) (λ_=>trivial) sQ (λ_=>trivial) oM
 ·obtain rfl:H=false:= ‹_›;go_wp2_with fail;go_loopg [3] (ml t u f) (λg L wr=>∃(c:List (List Value)) (b:Nat) (e n:Int),g=ml t b e/\ez 0 c b e/\(e=0->(λ_=>True) (c.map aA))/\Mz 1 w p q r t j f False (0) wr b e n [] [] L c)
  case atStart=>exact⟨[],u,f,F,Q,⟨λ_=>by simp,sQ⟩,(λi=>trivial),(a.up (λk=>k.elim)).less oM⟩
  case round=>
   clear a;obtain⟨c,b,e,n,v,hF,x,a⟩:=hrel;have y:Hid (e=0->(λ_=>True) (c.map aA)):=x;clear x;have z:=a.st.rd.lt;have Z:(0:Int)<=(t.pos b:Int)/\(t.pos b:Int)<=7000:=oH (h.ar.aO b);have M:Hid (gk=ml t b e):=v;clear v;obtain⟨N,P,rfl⟩:=a.shape
   cases o:(e==0)
   ·go_wp2_with fail;refine a.lf aV ?_;clear a;intro aa a;go_wp2_with fail;go_ret;exact Mz.post (d:=0) (a.up (g':=True) (λ_ i=>absurd i (sU o))) (λ_=>trivial) hF.2 (λi=>absurd i (sU o)) oM
   ·obtain rfl:e=0:=sU o;have l:Hid (j<=b/\f=0):=⟨a.le,a.ok Q⟩;replace y:Hid ((λ_=>True) (c.map aA)):=y.out Q;have R:Hid (∀i' k',b<=i'->Bd m t i' k' 3):=λi' k' A=>G.out.down (lT a.le A) (λ_=>a.ok Q) dC;have S:O c<=6001:=oI (hF.1 Q) h.ar.bB;replace a:Mz 1 w p q r t b 0 False (16*((b:Int) - (j:Int))+(0)) wr b 0 n [] [] (J N (O c) P) c:=a.bU.less oM;go_wp2_with fail;refine a.lf aV ?_;clear a;intro ab a;go_wp2_with fail;refine a.nd (D · (R.out _ _ a.le)) ?_;clear a;intro T V ac ad ae af _ a;go_wp2_with (at_builtin;refine a.ap (sz T) (lT S dC) ?_;clear a;intro ag ah ai a)
    go_wp2_with fail;refine a.et (aR · _) ?_;clear a;intro aj ak al ao a;go_wp2_with fail
    ·go_wp2_with fail;go_ret;exact Mz.post (d:=0) ((a.aD (i':=j) (k':=f) (g':=False) (s':= -8) l.out.1 (λ_=>l.out.2) (λk=>k.elim) oM).up (g':=True) (λ_ i=>Nat.lt_of_le_of_lt l.out.1 (a.go trivial i))) (λ_=>trivial) (by have A:=hF.1 rfl;have ap:=h.ar.bB;simp only[List.length_append,List.length_cons,List.length_nil];omega) (λ_=>trivial) oM
    ·go_wp2_with fail;refine a.wn (aH · _) ?_;clear a;intro aq B C W ar a;go_wp2_with fail;go_roundg (ml t B C)
     case measure=>rw[M.out];exact bO z a.le (a.go trivial)
     case rel=>exact⟨(c++[V.t]),B,C,W,Q,ez.snoc (t:=t) hF Q z h.ar (a.go trivial),(λ_=>trivial),a.aD (s':=0) l.out.1 (λ_=>l.out.2) (λk=>k.elim) oM⟩
theorem qQ {e:Nat} (n:sP 3 e) {w:World} {rb f j i:Nat} {t:Tk} {k a:Int} (h:Rd w rb f j t i k a) (l:Bd (e+1) t i k 3) (o:bW t i k 0 ⟨#[105,110,116]⟩=false) (p:bW t i k 0 ⟨#[98,111,111,108]⟩=false) (q:bW t i k 0 ⟨#[40]⟩=false) (v:bW t i k 0 ⟨#[38]⟩=false) (m:bW t i k 0 ⟨#[38,38]⟩=true):Calls Tryz.prog 81 #[.pointer (some ⟨rb,0,I⟩)] w (aY 3 w rb f j t i k True 8 cH):=by
 have x:=h.l;have r:Hid (Bd (e+1) t i k 3):=l;clear l;have y:(0:Int)<=(t.pos i:Int)/\(t.pos i:Int)<=7000:=oH (h.ar.aO i);go_enter Tryz.func81,Tryz.ntmps81
 have z:=dK;have A:(i:Int)<(t.len:Int):=oH h.lt;have B:(t.len:Int)<=6001:=oH h.ar.bB;have b:=Mz.start (wt:=3) h;go_wp2_with fail;refine(b.ne' (sz w) (aB)).lf (aE · 0) ?_;clear b;intro s b;have c:=b.f1;go_wp2_with fail;refine(b.ne' (sz s) (nk 0 (t.pos i) nl)).lf (bu · _ o) ?_;clear b c;intro D b;have c:=b.f2;go_wp2_with fail;refine b.lf (bu · _ p) ?_;clear b c;intro F b;have c:=b.f2;go_wp2_with fail;refine b.lf (bu · _ q) ?_;clear b c;intro G b;have c:=b.f2;go_wp2_with fail;refine b.lf (aW · 0 dC _) ?_;clear b c;intro H b;have c:=b.f2;go_wp2_with fail;refine b.lf (aW · 0 dC _) ?_;clear b c;intro K b;have c:=b.f2;go_wp2_with fail;refine b.nd (n · (dI h.ar h.lt m).1 (dI h.ar h.lt m).2 (r.out.down b.le b.ok dC)) ?_;clear b c;intro L M N P R u S b;have c:=b.f2;go_wp2_with fail;go_light;exact Mz.cC (C:=cH) (d:=8) Tryz.results81 Q Q b 1 Q u oM Q
end Go.Proofs.YtcnnibahjmekdaaGreat
