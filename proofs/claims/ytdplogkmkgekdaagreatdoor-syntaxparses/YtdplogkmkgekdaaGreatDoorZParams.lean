/- Parameters, counted. -/
import Derived.Test.YtdplogkmkgekdaaGreatDoorMide
import Derived.Test.YtdplogkmkgekdaaGreatDoorMid
set_option linter.all false
set_option maxRecDepth 100000
set_option maxHeartbeats 4000000
namespace Go.Proofs.YtdplogkmkgekdaaGreatDoor
open Go.RowKit
variable {wt:Nat}
def kidsAt (w:World):Value→List (List Value)
 |.slice (some p) n _=>(List.range n).map (fun i=>(List.range 11).map (fun o=>(w.cell? ⟨p.block,i*11+o,none⟩).getD undef))
 |_=>[]
theorem kidsAt_owns {w:World} {base e:Nat} {v:Value} {vs:List (List Value)} (h:w.ownsRow base e 11 v vs.length vs.flatten) (hl:∀x∈vs,x.length=11):kidsAt w v=vs:=by
 rcases h.2 with⟨h1,h2⟩|⟨g,cap,cur,h1,hb,hg,hnc,hcm,hcs,htake⟩
 ·obtain rfl:vs=[]:=List.eq_nil_of_length_eq_zero h2
  rw[h1]
  rfl
 ·rw[h1]
  unfold kidsAt
  apply List.ext_getElem?
  intro i
  by_cases hi:i<vs.length
  ·have hx:vs[i]? =some vs[i]:=List.getElem?_eq_getElem hi
   have hxl:=hl _ (List.getElem_mem hi)
   rw[List.getElem?_map,List.getElem?_range hi,hx]
   show some _=some _
   congr 1
   apply List.ext_getElem?
   intro o
   by_cases ho:o<11
   ·rw[List.getElem?_map,List.getElem?_range ho]
    have hlt:i*11+o<vs.length*11:=by omega
    show some ((w.cell? ⟨g,i*11+o,none⟩).getD undef)=_
    have e2:(cur.toList.take (vs.length*11))[i*11+o]? =cur[i*11+o]? :=by rw[List.getElem?_take,if_pos hlt];simp
    rw[cell_of_row w g (i*11+o) cur e (0,0) hg,←e2,htake,flat_get hl hx o ho,List.getElem?_eq_getElem (by omega)]
    rfl
   ·rw[List.getElem?_eq_none (by simp;omega),List.getElem?_eq_none (by omega)]
  ·rw[List.getElem?_eq_none (by simp;omega),List.getElem?_eq_none (by omega)]
def nsz:Nat→World→List Value→Nat
 |0,_,_=>0
 |f+1,w,cs=>1+((kidsAt w (cs.getD 5 undef)).map (nsz f w)).sum
theorem nsz_eq {S:Nat→Prop} {g:Prop} {h f base:Nat} {w:World} {kind pos n m:Int} {name:ByteArray} {kv:Value} {vs:List (List Value)} (h4:w.ownsRow base 28 11 kv vs.length vs.flatten) (h6:∀x∈vs,isNode S g h w x):nsz (f+1) w (nodeC kind pos n m name kv).toList=1+(vs.map (nsz f w)).sum:=by
 have e:=kidsAt_owns h4 (fun x hx=>(isNode.ones _ _ (h6 x hx)).1)
 show 1+((kidsAt w kv).map (nsz f w)).sum=_
 rw[e]
theorem nsz_frame {S:Nat→Prop} {g:Prop} {w w':World} (hs:Same S w w'):(h:Nat)→(cs:List Value)→isNode S g h w cs→∀f,nsz f w' cs=nsz f w cs
 |0,_,hn,_=>absurd hn (fun x=>x)
 |_+1,_,_,0=>rfl
 |h+1,_,⟨kind,pos,n,m,name,kv,vs,h1,h2,h3,h3',h4,h5,h6,h7⟩,f+1=>by
  subst h1
  rw[nsz_eq h4 h6,nsz_eq (ownsRow_same h4 (fun b hb hl=>hs b (h5 b hb) hl)) (fun x hx=>isNode.frame hs h x (h6 x hx))]
  have:vs.map (nsz f w')=vs.map (nsz f w):=List.map_congr_left (fun x hx=>nsz_frame hs h x (h6 x hx) f)
  rw[this]
theorem sum_le_sum {f g:List Value→Nat} (vs:List (List Value)) (h:∀x∈vs,f x≤g x):(vs.map f).sum≤(vs.map g).sum:=by
 induction vs with
 |nil=>simp
 |cons x r ih=>
  simp only[List.map_cons,List.sum_cons]
  have h1:=h x (List.mem_cons_self ..)
  have h2:=ih (fun y hy=>h y (List.mem_cons_of_mem _ hy))
  omega
def nsy (wt:Nat):Nat→World→List Value→Nat
 |0,_,_=>0
 |f+1,w,cs=>wt+((kidsAt w (cs.getD 5 undef)).map (nsy wt f w)).sum
theorem nsy_eq {S:Nat→Prop} {g:Prop} {h f base:Nat} {w:World} {kind pos n m:Int} {name:ByteArray} {kv:Value} {vs:List (List Value)} (h4:w.ownsRow base 28 11 kv vs.length vs.flatten) (h6:∀x∈vs,isNode S g h w x):nsy wt (f+1) w (nodeC kind pos n m name kv).toList=wt+(vs.map (nsy wt f w)).sum:=by
 have e:=kidsAt_owns h4 (fun x hx=>(isNode.ones _ _ (h6 x hx)).1)
 show wt+((kidsAt w kv).map (nsy wt f w)).sum=_
 rw[e]
theorem nsy_frame {S:Nat→Prop} {g:Prop} {w w':World} (hs:Same S w w'):(h:Nat)→(cs:List Value)→isNode S g h w cs→∀f,nsy wt f w' cs=nsy wt f w cs
 |0,_,hn,_=>absurd hn (fun x=>x)
 |_+1,_,_,0=>rfl
 |h+1,_,⟨kind,pos,n,m,name,kv,vs,h1,h2,h3,h3',h4,h5,h6,h7⟩,f+1=>by
  subst h1
  rw[nsy_eq h4 h6,nsy_eq (ownsRow_same h4 (fun b hb hl=>hs b (h5 b hb) hl)) (fun x hx=>isNode.frame hs h x (h6 x hx))]
  have:vs.map (nsy wt f w')=vs.map (nsy wt f w):=List.map_congr_left (fun x hx=>nsy_frame hs h x (h6 x hx) f)
  rw[this]
theorem nsy_one:(f:Nat)→(w:World)→(cs:List Value)→nsy wt f w cs≤nsy wt (f+1) w cs
 |0,_,_=>Nat.zero_le _
 |f+1,w,cs=>by
  show wt+((kidsAt w (cs.getD 5 undef)).map (nsy wt f w)).sum≤wt+((kidsAt w (cs.getD 5 undef)).map (nsy wt (f+1) w)).sum
  have:=sum_le_sum (f:=nsy wt f w) (g:=nsy wt (f+1) w) (kidsAt w (cs.getD 5 undef)) (fun x _=>nsy_one f w x)
  omega
theorem nsy_mono wt (f:Nat) (w:World) (vs:List (List Value)):(vs.map (nsy wt f w)).sum≤(vs.map (nsy wt (f+1) w)).sum:=sum_le_sum vs (fun x _=>nsy_one f w x)
theorem nsy_nsz:(f:Nat)→(w:World)→(cs:List Value)→nsy wt f w cs=wt*nsz f w cs
 |0,_,_=>rfl
 |f+1,w,cs=>by
  show wt+((kidsAt w (cs.getD 5 undef)).map (nsy wt f w)).sum=wt*(1+((kidsAt w (cs.getD 5 undef)).map (nsz f w)).sum)
  have:∀vs:List (List Value),(vs.map (nsy wt f w)).sum=wt*(vs.map (nsz f w)).sum:=by
   intro vs
   induction vs with
   |nil=>rfl
   |cons x vs ih=>rw[List.map_cons,List.map_cons,List.sum_cons,List.sum_cons,ih,nsy_nsz f w x,Nat.mul_add]
  rw[this,Nat.mul_add,Nat.mul_one]
def tot (wt f:Nat) (w:World) (vs:List (List Value)):Int:=(((vs.map (nsy wt f w)).sum:Nat):Int)
theorem tot_nil (f:Nat) (w:World):tot wt f w []=0:=rfl
theorem tot_cons (f:Nat) (w:World) (x:List Value) (vs:List (List Value)):tot wt f w (x::vs)=(nsy wt f w x:Int)+tot wt f w vs:=by simp[tot]
theorem tot_append (f:Nat) (w:World) (a b:List (List Value)):tot wt f w (a++b)=tot wt f w a+tot wt f w b:=by simp[tot]
theorem tot_nonneg (wt f:Nat) (w:World) (vs:List (List Value)):0≤tot wt f w vs:=by unfold tot;omega
theorem tot_wt (f:Nat) (w:World) (vs:List (List Value)):tot wt f w vs=(wt:Int)*tot 1 f w vs:=by
 induction vs with
 |nil=>simp[tot]
 |cons x vs ih=>rw[tot_cons,tot_cons,ih,nsy_nsz,nsy_nsz,Int.mul_add];simp
structure Mz (wt:Nat) (w:World) (rb tb cap:Nat) (t:Tk) (i:Nat) (k:Int) (g:Prop) (s:Int) (W:World) (j:Nat) (kj aj:Int) (L:List (Nat × Array Value)) (T:List (List Value)) (kv:Value) (vs:List (List Value)):Prop where
 mid:Mid w rb tb cap t i k g W j kj aj L T kv vs
 sz:kj=0→∀f,tot wt f W vs+tot wt f W T≤16*((j:Int) - (i:Int))+s
section
variable {w W w':World} {rb tb cap i j:Nat} {t:Tk} {k kj aj:Int} {g:Prop} {s:Int} {L:List (Nat × Array Value)} {T:List (List Value)} {kv:Value} {vs:List (List Value)}
theorem Mid.tots (q:Mid w rb tb cap t i k g W j kj aj L T kv vs) (hs:Same (Out w (L.map adr) kv) W w') (f:Nat):tot wt f w' vs=tot wt f W vs∧tot wt f w' T=tot wt f W T:=by
 obtain⟨h,ha⟩:=q.all
 constructor
 ·unfold tot;rw[List.map_congr_left (fun x hx=>nsy_frame hs _ _ (ha x (.inl hx)) f)]
 ·unfold tot;rw[List.map_congr_left (fun x hx=>nsy_frame hs _ _ (ha x (.inr hx)) f)]
theorem Mid.tots_kp (q:Mid w rb tb cap t i k g W j kj aj L T kv vs) (h2:Kp W.heap.size rb W w') (f:Nat):tot wt f w' vs=tot wt f W vs∧tot wt f w' T=tot wt f W T:=
 q.tots (wt:=wt) (Same.kp h2 (fun e=>by have:=e.1;have:=q.st.lb;omega)) f
theorem Mz.start {a:Int} (h:Rd w rb tb cap t i k a):Mz wt w rb tb cap t i k False 0 w i k a [] [] (.slice none 0 0) []:=⟨Mid.start h,fun _ f=>by rw[tot_nil];omega⟩
theorem Mz.less (q:Mz wt w rb tb cap t i k g s W j kj aj L T kv vs) {s':Int} (h:s≤s'):Mz wt w rb tb cap t i k g s' W j kj aj L T kv vs:=⟨q.mid,fun e f=>by have:=q.sz e f;omega⟩
theorem Mz.rk (q:Mz wt w rb tb cap t i k g s W j kj aj L T kv vs) {i':Nat} {k' a':Int} (h1:Rd w' rb tb cap t i' k' a') (h2:Kp W.heap.size rb W w') (hle:j≤i') (hok:k'=0→kj=0):Mz wt w rb tb cap t i k g s w' i' k' a' L T kv vs:=
 ⟨q.mid.rk h1 h2 hle hok,fun e f=>by have h:=q.sz (hok e) f;have h3:=q.mid.tots_kp (wt:=wt) h2 f;rw[h3.1,h3.2];omega⟩
theorem Mz.nx (q:Mz wt w rb tb cap t i k g s W j kj aj L T kv vs) {must:Prop} {i':Nat} {k' a':Int} (hx:Nx W rb tb cap t j kj must w' i' k' a'):Mz wt w rb tb cap t i k g s w' i' k' a' L T kv vs:=q.rk hx.rd hx.kp hx.le hx.ok
theorem Mz.up (q:Mz wt w rb tb cap t i k g s W j kj aj L T kv vs) {g':Prop} (hg:g'→kj=0→i<j):Mz wt w rb tb cap t i k g' s W j kj aj L T kv vs:=⟨q.mid.up hg,q.sz⟩
theorem Mz.nxm (q:Mz wt w rb tb cap t i k g s W j kj aj L T kv vs) {i':Nat} {k' a':Int} (hx:Nx W rb tb cap t j kj True w' i' k' a'):Mz wt w rb tb cap t i k True (s - 16) w' i' k' a' L T kv vs:=
 ⟨q.mid.nxm hx,fun e f=>by have h:=q.sz (hx.ok e) f;have h3:=q.mid.tots_kp (wt:=wt) hx.kp f;have h4:=hx.go trivial e;rw[h3.1,h3.2];omega⟩
theorem Mz.below (q:Mz wt w rb tb cap t i k g s W j kj aj L T kv vs) (hb:Below W.heap.size W w'):Mz wt w rb tb cap t i k g s w' j kj aj L T kv vs:=q.nx (Nx.below q.mid.st.rd hb)
theorem Mz.alloc (q:Mz wt w rb tb cap t i k g s W j kj aj L T kv vs) (o:Obj):Mz wt w rb tb cap t i k g s (W.alloc o) j kj aj L T kv vs:=q.below ((Below.refl _ _).alloc (Nat.le_refl _) o)
theorem Mz.newAt (q:Mz wt w rb tb cap t i k g s W j kj aj L T kv vs) {ad:Nat} (had:ad=W.heap.size) (c:Array Value):Mz wt w rb tb cap t i k g s (W.alloc (.cells c 28)) j kj aj ((ad,c)::L) T kv vs:=⟨q.mid.newAt had c,(q.alloc _).sz⟩
theorem Mz.put (q:Mz wt w rb tb cap t i k g s W j kj aj L T kv vs) (n:Nat) {b:Nat} {c:Array Value} (hn:L[n]? =some (b,c)) (o:Nat) (u:Value):Mz wt w rb tb cap t i k g s (W.setCell ⟨b,o,none⟩ u) j kj aj (L.set n (b,c.setIfInBounds o u)) T kv vs:=
 ⟨q.mid.put n hn o u,fun e f=>by
  have h3:=q.mid.tots (wt:=wt) (w':=W.setCell ⟨b,o,none⟩ u) (Same.setCell _ ⟨b,o,none⟩ _ (fun x=>x.2.1 (List.mem_map.2 ⟨_,List.mem_of_getElem? hn,rfl⟩))) f
  rw[h3.1,h3.2]
  exact q.sz e f⟩
theorem Mz.put11 (q:Mz wt w rb tb cap t i k g s W j kj aj L T kv vs) (n:Nat) {b:Nat} {d0 d1 d2 d3 d4 d5 d6 d7 d8 d9 d10:Value} (hn:L[n]? =some (b,#[d0,d1,d2,d3,d4,d5,d6,d7,d8,d9,d10])) (c0 c1 c2 c3 c4 c5 c6 c7 c8 c9 c10:Value):Mz wt w rb tb cap t i k g s (set11 W b c0 c1 c2 c3 c4 c5 c6 c7 c8 c9 c10) j kj aj (L.set n (b,#[c0,c1,c2,c3,c4,c5,c6,c7,c8,c9,c10])) T kv vs:=
 ⟨q.mid.put11 n hn c0 c1 c2 c3 c4 c5 c6 c7 c8 c9 c10,fun e f=>by
  have h3:=q.mid.tots (wt:=wt) (w':=set11 W b c0 c1 c2 c3 c4 c5 c6 c7 c8 c9 c10) (Same.set11 (fun x=>x.2.1 (List.mem_map.2 ⟨_,List.mem_of_getElem? hn,rfl⟩)) _ _ _ _ _ _ _ _ _ _ _) f
  rw[h3.1,h3.2]
  exact q.sz e f⟩
theorem Mz.goI (q:Mz wt w rb tb cap t i k g s W j kj aj L T kv vs) {j':Nat} (hj:j'<t.len) (hle:j<j'):Mz wt w rb tb cap t i k True (s - 16) (W.setCell ⟨rb,1,none⟩ (.int .i64 j')) j' kj aj L T kv vs:=
 ⟨q.mid.goI hj hle,fun e f=>by
  have h3:=q.mid.tots_kp (wt:=wt) (w':=W.setCell ⟨rb,1,none⟩ (.int .i64 j')) (Kp.setCell (p:=⟨rb,1,none⟩) (Kp.refl _ _ _) (.inr rfl) _) f
  have h4:=q.sz e f
  rw[h3.1,h3.2]
  omega⟩
theorem Mz.node (q:Mz wt w rb tb cap t i k g s W j kj aj L T kv vs) {must:Prop} {i':Nat} {k' a':Int} (hx:Nx W rb tb cap t j kj must w' i' k' a') {c:List Value} (hn:NodeIn W.heap.size (k'=0) w' c) {d:Int} (hz:k'=0→∀f,(nsy wt f w' c:Int)+d≤16*((i':Int) - (j:Int))):Mz wt w rb tb cap t i k g (s - d) w' i' k' a' L (c::T) kv vs:=
 ⟨q.mid.node hx hn,fun e f=>by
  have h:=q.sz (hx.ok e) f
  have h3:=q.mid.tots_kp (wt:=wt) hx.kp f
  have h4:=hz e f
  rw[tot_cons,h3.1,h3.2]
  omega⟩
theorem Mz.nodem (q:Mz wt w rb tb cap t i k g s W j kj aj L T kv vs) {i':Nat} {k' a':Int} (hx:Nx W rb tb cap t j kj True w' i' k' a') {c:List Value} (hn:NodeIn W.heap.size (k'=0) w' c) {d:Int} (hz:k'=0→∀f,(nsy wt f w' c:Int)+d≤16*((i':Int) - (j:Int))):Mz wt w rb tb cap t i k True (s - d) w' i' k' a' L (c::T) kv vs:=
 ⟨q.mid.nodem hx hn,(q.node hx hn hz).sz⟩
theorem Mz.holds (q:Mz wt w rb tb cap t i k g s W j kj aj L T kv vs) {must:Prop} {i':Nat} {k' a':Int} (hx:Nx W rb tb cap t j kj must w' i' k' a') {kv':Value} {vs':List (List Value)} (hK:Kids W.heap.size (k'=0) w' kv' vs') {d:Int} (hz:k'=0→∀f,tot wt f w' vs'+d≤16*((i':Int) - (j:Int))):Mz wt w rb tb cap t i k g (s - d) w' i' k' a' L (vs'++T) kv vs:=
 ⟨q.mid.holds hx hK,fun e f=>by
  have h:=q.sz (hx.ok e) f
  have h3:=q.mid.tots_kp (wt:=wt) hx.kp f
  have h4:=hz e f
  rw[tot_append,h3.1,h3.2]
  omega⟩
theorem Mz.list (q:Mz wt w rb tb cap t i k g s W j kj aj L T (.slice none 0 0) []) {must:Prop} {i':Nat} {k' a':Int} (hx:Nx W rb tb cap t j kj must w' i' k' a') {kv':Value} {vs':List (List Value)} (hK:Kids W.heap.size (k'=0) w' kv' vs') {d:Int} (hz:k'=0→∀f,tot wt f w' vs'+d≤16*((i':Int) - (j:Int))):Mz wt w rb tb cap t i k g (s - d) w' i' k' a' L T kv' vs':=
 ⟨q.mid.list hx hK,fun e f=>by
  have h:=q.sz (hx.ok e) f
  have h3:=q.mid.tots_kp (wt:=wt) hx.kp f
  have h4:=hz e f
  rw[tot_nil] at h
  rw[h3.2]
  omega⟩
theorem Mz.swap {a b:List Value} (q:Mz wt w rb tb cap t i k g s W j kj aj L (a::b::T) kv vs):Mz wt w rb tb cap t i k g s W j kj aj L (b::a::T) kv vs:=
 ⟨q.mid.swap,fun e f=>by have h:=q.sz e f;rw[tot_cons,tot_cons] at h⊢;omega⟩
theorem Mz.pop {p:Nat × Array Value} (q:Mz wt w rb tb cap t i k g s W j kj aj (p::L) T kv vs):Mz wt w rb tb cap t i k g s W j kj aj L T kv vs:=⟨q.mid.pop,q.sz⟩
theorem Mz.toT (q:Mz wt w rb tb cap t i k g s W j kj aj L T kv vs):Mz wt w rb tb cap t i k g s W j kj aj L (vs++T) (.slice none 0 0) []:=
 ⟨q.mid.toT,fun e f=>by have h:=q.sz e f;rw[tot_append,tot_nil];omega⟩
theorem Mz.made {us:List (List Value)} (q:Mz wt w rb tb cap t i k g s W j kj aj L (us++T) (.slice none 0 0) []) (cs:Array Value) (hcs:cs.toList=us.flatten) (hl:us.length≤20000) (h11:∀x∈us,x.length=11) {ad n:Nat} (had:ad=W.heap.size) (hn:n=us.length):
 Mz wt w rb tb cap t i k g s (W.alloc (.cells cs 28)) j kj aj L T (.slice (some ⟨ad,0,none⟩) n n) us:=
 ⟨q.mid.made cs hcs hl h11 had hn,fun e f=>by
  have h:=(q.alloc (.cells cs 28)).sz e f
  rw[tot_append,tot_nil] at h
  omega⟩
theorem Mz.fold (q:Mz wt w rb tb cap t i k g s W j kj aj L T kv vs) (hl:vs.length≤20000) {kind pos n m:Int} {name:ByteArray} (hn:name.size≤20000) (hp:0≤pos∧pos≤7000) (hG:kj=0→Gr kind n m name (vs.map labOf)):Mz wt w rb tb cap t i k g (s+(wt:Int)) W j kj aj L ((nodeC kind pos n m name kv).toList::T) (.slice none 0 0) []:=
 ⟨q.mid.fold hl hn hp hG,fun e f=>by
  obtain⟨h,ha⟩:=q.mid.all
  rw[tot_cons,tot_nil]
  have h0:=q.sz e f
  have h1:=tot_nonneg wt f W vs
  cases f with
  |zero=>
   have h2:nsy wt 0 W (nodeC kind pos n m name kv).toList=0:=rfl
   rw[h2]
   omega
  |succ f=>
   have e1:nsy wt (f+1) W (nodeC kind pos n m name kv).toList=wt+(vs.map (nsy wt f W)).sum:=nsy_eq q.mid.row (fun x hx=>ha x (.inl hx))
   have e2:=q.sz e f
   have e3:(vs.map (nsy wt f W)).sum≤(vs.map (nsy wt (f+1) W)).sum:=nsy_mono wt f W vs
   rw[e1]
   unfold tot at h0⊢
   omega⟩
end
end Go.Proofs.YtdplogkmkgekdaaGreatDoor
namespace Go.Proofs.YtdplogkmkgekdaaGreatDoor
open Go.RowKit
variable {wt:Nat}
section
variable {w W w':World} {rb tb cap i j:Nat} {t:Tk} {k kj aj:Int} {g:Prop} {s:Int} {L:List (Nat × Array Value)} {T:List (List Value)} {kv:Value} {vs:List (List Value)}
theorem Mz.st (q:Mz wt w rb tb cap t i k g s W j kj aj L T kv vs):St w rb tb cap t W j kj aj:=q.mid.st
theorem Mz.le (q:Mz wt w rb tb cap t i k g s W j kj aj L T kv vs):i≤j:=q.mid.le
theorem Mz.ok (q:Mz wt w rb tb cap t i k g s W j kj aj L T kv vs):kj=0→k=0:=q.mid.ok
theorem Mz.go (q:Mz wt w rb tb cap t i k g s W j kj aj L T kv vs):g→kj=0→i<j:=q.mid.go
theorem Mz.at (q:Mz wt w rb tb cap t i k g s W j kj aj L T kv vs) (n:Nat) {b:Nat} {c:Array Value} (hn:L[n]? =some (b,c)):(∀o,W.cell? ⟨b,o,none⟩=c[o]?)∧(∀o,W.frozen? ⟨b,o,none⟩=false)∧b<W.heap.size∧b≠rb:=q.mid.at n hn
theorem Mz.ne (q:Mz wt w rb tb cap t i k g s W j kj aj L T kv vs) (n m:Nat) {b b':Nat} {c c':Array Value} (hn:L[n]? =some (b,c)) (hm:L[m]? =some (b',c')) (h:n≠m):b≠b'∧b'≠b:=q.mid.ne n m hn hm h
theorem Mz.shape (q:Mz wt w rb tb cap t i k g s W j kj aj L T kv vs):∃ao cp,kv=.slice ao vs.length cp:=q.mid.shape
theorem Mz.shapeT {ao:Option Addr} {cp:Nat} (q:Mz wt w rb tb cap t i k g s W j kj aj L T (.slice ao vs.length cp) vs) (h:1≤vs.length):∃gb,ao=some ⟨gb,0,none⟩:=q.mid.shapeT h
theorem Mz.bd {N r:Nat} (q:Mz wt w rb tb cap t i k True s W j kj aj L T kv vs) (HB:∀i' k' r',(k'=0→i<i')→r'<64→Bd N t i' k' r') (hr:r<64):Bd N t j kj r:=q.mid.bd HB hr
theorem Mz.first {ao:Option Addr} {cp:Nat} (q:Mz wt w rb tb cap t i k g s W j kj aj L T (.slice ao vs.length cp) vs) (h1:vs.length=1):∃gb,ao=some ⟨gb,0,none⟩∧gb<W.heap.size∧gb≠rb∧gb∉L.map adr∧∃kind pos n m name ko kl kc,vs=[(nodeC kind pos n m name (.slice ko kl kc)).toList]∧∀o,o<11→W.cell? ⟨gb,o,none⟩=(nodeC kind pos n m name (.slice ko kl kc))[o]? :=q.mid.first h1
theorem Mz.notin {b:Nat} (q:Mz wt w rb tb cap t i k g s W j kj aj L T kv vs) (hb:b∉L.map adr) (n:Nat) {b':Nat} {c:Array Value} (hn:L[n]? =some (b',c)):b≠b'∧b'≠b:=q.mid.notin hb n hn
theorem Mz.rebase (q:Mz wt w rb tb cap t i k g s W j kj aj L T kv vs):Mz wt w rb tb cap t j kj False (16*((j:Int) - (i:Int))+s) W j kj aj L T kv vs:=⟨q.mid.rebase,fun e f=>by have:=q.sz e f;omega⟩
theorem Mz.unbase {i':Nat} {k':Int} {g':Prop} {s':Int} (q:Mz wt w rb tb cap t i k g s W j kj aj L T kv vs) (h1:i'≤i) (h2:k=0→k'=0) (h3:g'→k=0→i'<i) (hs:s≤16*((i:Int) - (i':Int))+s'):Mz wt w rb tb cap t i' k' g' s' W j kj aj L T kv vs:=
 ⟨q.mid.unbase h1 h2 h3,fun e f=>by have:=q.sz e f;omega⟩
theorem Mz.leaf (q:Mz wt w rb tb cap t i k g s W j kj aj L T kv vs) {kind pos n m:Int} {name:ByteArray} (hn:name.size≤20000) (hp:0≤pos∧pos≤7000) (hG:kj=0→Gr kind n m name []):Mz wt w rb tb cap t i k g (s+(wt:Int)) W j kj aj L ((nodeC kind pos n m name (.slice none 0 0)).toList::T) kv vs:=
 ⟨q.mid.leaf hn hp hG,fun e f=>by
  have h0:=q.sz e f
  rw[tot_cons]
  cases f with
  |zero=>
   have h2:nsy wt 0 W (nodeC kind pos n m name (.slice none 0 0)).toList=0:=rfl
   rw[h2]
   omega
  |succ f=>
   have h2:nsy wt (f+1) W (nodeC kind pos n m name (.slice none 0 0)).toList=wt:=rfl
   rw[h2]
   omega⟩
theorem Mz.lit {us:List (List Value)} (q:Mz wt w rb tb cap t i k g s W j kj aj L (us++T) kv vs) (cs:Array Value) (hcs:cs.toList=us.flatten) (hl:us.length≤20000) (h11:∀x∈us,x.length=11) {ad c:Nat} (had:ad=W.heap.size) (hc:c=us.length)
 {kind pos n m:Int} {name:ByteArray} (hn:name.size≤20000) (hp:0≤pos∧pos≤7000) (hG:kj=0→Gr kind n m name (us.map labOf)):Mz wt w rb tb cap t i k g (s+(wt:Int)) (W.alloc (.cells cs 28)) j kj aj L ((nodeC kind pos n m name (.slice (some ⟨ad,0,none⟩) c c)).toList::T) kv vs:=
 ⟨q.mid.lit cs hcs hl h11 had hc hn hp hG,fun e f=>by
  subst had hc
  have q1:=q.alloc (.cells cs 28)
  have h0:=q1.sz e f
  rw[tot_append] at h0
  rw[tot_cons]
  cases f with
  |zero=>
   have h2:nsy wt 0 (W.alloc (.cells cs 28)) (nodeC kind pos n m name (.slice (some ⟨W.heap.size,0,none⟩) us.length us.length)).toList=0:=rfl
   have h3:=tot_nonneg wt 0 (W.alloc (.cells cs 28)) us
   rw[h2]
   omega
  |succ f=>
   obtain⟨h,ha⟩:=q1.mid.all
   have hsz:us.flatten.length=us.length*11:=by
    clear hcs hl q q1 hG h0 ha
    induction us with
    |nil=>rfl
    |cons x r ih=>simp only[List.flatten_cons,List.length_append,List.length_cons];rw[ih (fun y hy=>h11 y (List.mem_cons_of_mem _ hy)),h11 x (List.mem_cons_self ..)];omega
   have hrow:=World.ownsRow_lit (base:=0) (e:=28) (size:=11) W cs us.length (Nat.zero_le _) (by unfold maxLen;omega) (by rw[←Array.length_toList,hcs,hsz])
   rw[hcs] at hrow
   have e1:nsy wt (f+1) (W.alloc (.cells cs 28)) (nodeC kind pos n m name (.slice (some ⟨W.heap.size,0,none⟩) us.length us.length)).toList=wt+(us.map (nsy wt f (W.alloc (.cells cs 28)))).sum:=nsy_eq hrow (fun x hx=>ha x (.inr (List.mem_append.2 (.inl hx))))
   have e2:=nsy_mono wt f (W.alloc (.cells cs 28)) us
   rw[e1]
   unfold tot at h0⊢
   omega⟩
theorem Mid.tots_grown (q:Mid w rb tb cap t i k g W j kj aj L T kv vs) (hg:W.grownBy w' kv.ownBlock) (f:Nat):tot wt f w' vs=tot wt f W vs∧tot wt f w' T=tot wt f W T:=by
 obtain⟨h,ha⟩:=q.all
 have hs:Same (fun b=>Out w (L.map adr) kv b∧b<W.heap.size) W w':=Same.grown hg (fun b e hb=>hb.1.2.2 e)
 constructor
 ·unfold tot;rw[List.map_congr_left (fun x hx=>nsy_frame hs _ _ (isNode.low _ _ (ha x (.inl hx))) f)]
 ·unfold tot;rw[List.map_congr_left (fun x hx=>nsy_frame hs _ _ (isNode.low _ _ (ha x (.inr hx))) f)]
theorem Mz.run_app {us:List (List Value)} (q:Mz wt w rb tb cap t i k g s W j kj aj L (us++T) kv vs) (hv:vs.length≤19000) (hu:us.length≤6010) (ty:TypeId) {xv:Value} (hx:(xv=.slice none 0 0∧us=[])∨∃ad c,xv=.slice (some ad) us.length c∧∀j u,us.flatten[j]? =some u→W.cell? (ad.add j)=some u):
 ∃v' w',(Builtin.append_ #[22,22] ty #[kv,xv]).run Tryz.prog W=.ok v' w'∧∃ao cp,v'=.slice ao (vs.length+us.length) cp∧Mz wt w rb tb cap t i k g s w' j kj aj L T (.slice ao (vs.length+us.length) cp) (vs++us):=by
 obtain⟨i0,hi0,hz0,hz1,hz2⟩:=info_parts info46
 rcases hx with⟨rfl,rfl⟩|⟨ad,c,rfl,hc⟩
 ·refine⟨kv,W,run_append_owned_none (P:=Tryz.prog) (w:=W) w.heap.size 22 ty 28 i0 11 Tryz.underlying22 hi0 kv vs.length vs.flatten q.mid.row,?_⟩
  obtain⟨ao,cp,e⟩:=q.mid.shape
  refine⟨ao,cp,by simpa using e,?_⟩
  have q2:Mz wt w rb tb cap t i k g s W j kj aj L T kv (vs++[]):=by simpa using q
  rw[e] at q2
  simpa using q2
 ·obtain⟨h,ha⟩:=q.mid.all
  obtain⟨f1,f2⟩:=flat_ones (us:=us) (fun x hx=>isNode.ones _ _ (ha x (.inr (List.mem_append.2 (.inl hx)))))
  obtain⟨v',w',hr,h2,h3,_,h5⟩:=run_append_own_at (P:=Tryz.prog) W w.heap.size 22 ty 28 i0 _ 11 160 Tryz.underlying22 hi0 hz0 hz1 hz2 rfl (by decide) kv vs.length vs.flatten q.mid.row ad us.length c us.flatten f1 hc f2 (by unfold maxLen;omega) (by omega) q.mid.st.size
  have q1:=q.mid.app h2 h3 h5
  obtain⟨ao,cp,e⟩:=q1.shape
  rw[List.length_append] at e
  subst e
  refine⟨_,w',hr,ao,cp,rfl,q1,fun e f=>?_⟩
  have h6:=q.sz e f
  have h7:=q.mid.tots_grown (wt:=wt) h3 f
  rw[tot_append] at h6
  rw[tot_append,tot_append] at h7
  rw[tot_append,h7.1]
  omega
theorem Mz.swapL {a b:Nat × Array Value} (q:Mz wt w rb tb cap t i k g s W j kj aj (a::b::L) T kv vs):Mz wt w rb tb cap t i k g s W j kj aj (b::a::L) T kv vs:=⟨q.mid.swapL,q.sz⟩
theorem Mz.park {gb cp:Nat} (q:Mz wt w rb tb cap t i k g s W j kj aj L T (.slice (some ⟨gb,0,none⟩) vs.length cp) vs):∃c,Rest c vs cp∧Mz wt w rb tb cap t i k g s W j kj aj ((gb,c)::L) (vs++T) (.slice none 0 0) []:=by
 obtain⟨c,h1,h2⟩:=q.mid.park
 exact⟨c,h1,h2,fun e f=>by have:=q.sz e f;rw[tot_append,tot_nil];omega⟩
theorem Mz.unpark {gb cp:Nat} {c:Array Value} (hR:Rest c vs cp) (q:Mz wt w rb tb cap t i k g s W j kj aj ((gb,c)::L) (vs++T) (.slice none 0 0) []):Mz wt w rb tb cap t i k g s W j kj aj L T (.slice (some ⟨gb,0,none⟩) vs.length cp) vs:=
 ⟨Mid.unpark hR q.mid,fun e f=>by have:=q.sz e f;rw[tot_append,tot_nil] at this;omega⟩
end
end Go.Proofs.YtdplogkmkgekdaaGreatDoor
namespace Go.Proofs.YtdplogkmkgekdaaGreatDoor
open Go.RowKit
variable {wt:Nat}
end Go.Proofs.YtdplogkmkgekdaaGreatDoor
namespace Go.Proofs.YtdplogkmkgekdaaGreatDoor
open Go.RowKit
variable {wt:Nat}
theorem Mz.dead {w W:World} {rb tb cap i j:Nat} {t:Tk} {k kj aj:Int} {g:Prop} {s s':Int} {L:List (Nat × Array Value)} {T:List (List Value)} {kv:Value} {vs:List (List Value)} (q:Mz wt w rb tb cap t i k g s W j kj aj L T kv vs) (hk:kj≠0):Mz wt w rb tb cap t i k g s' W j kj aj L T kv vs:=⟨q.mid,fun e=>absurd e hk⟩
end Go.Proofs.YtdplogkmkgekdaaGreatDoor
namespace Go.Proofs.YtdplogkmkgekdaaGreatDoor
open Go.RowKit
variable {wt:Nat}
theorem Mz.sub {w W:World} {rb tb cap i j:Nat} {t:Tk} {k kj aj:Int} {g:Prop} {s:Int} {L:List (Nat × Array Value)} {T T':List (List Value)} {kv:Value} {vs:List (List Value)} (q:Mz wt w rb tb cap t i k g s W j kj aj L T kv vs) (hT:∀x∈T',x∈T) (hz:∀f (X:World),tot wt f X T'≤tot wt f X T):Mz wt w rb tb cap t i k g s W j kj aj L T' kv vs:=
 ⟨q.mid.sub hT,fun e f=>by have h1:=q.sz e f;have h2:=hz f W;omega⟩
end Go.Proofs.YtdplogkmkgekdaaGreatDoor
namespace Go.Proofs.YtdplogkmkgekdaaGreatDoor
open Go.RowKit
variable {wt:Nat}
end Go.Proofs.YtdplogkmkgekdaaGreatDoor
namespace Go.Proofs.YtdplogkmkgekdaaGreatDoor
open Go.RowKit
variable {wt:Nat}
end Go.Proofs.YtdplogkmkgekdaaGreatDoor
namespace Go.Proofs.YtdplogkmkgekdaaGreatDoor
open Go.RowKit
variable {wt:Nat}
structure Nf where
 k:Int
 p:Int
 n:Int
 m:Int
 s:ByteArray
 o:Option Addr
 l:Nat
 c:Nat
abbrev Nf.v (x:Nf):Value:=.slice x.o x.l x.c
abbrev Nf.a (x:Nf):Array Value:=nodeC x.k x.p x.n x.m x.s (.slice x.o x.l x.c)
abbrev Nf.t (x:Nf):List Value:=(nodeC x.k x.p x.n x.m x.s (.slice x.o x.l x.c)).toList
abbrev sz (w:World):Nat:=w.heap.size
abbrev nl:Value:=.slice none 0 0
abbrev sl (b n:Nat):Value:=.slice (some ⟨b,0,none⟩) n n
abbrev nk (k p:Int) (v:Value):Array Value:=nodeC k p 0 0 ⟨#[]⟩ v
abbrev Fc (W:World) (rb b:Nat) (c:Array Value):Prop:=(∀o,W.cell? ⟨b,o,none⟩=c[o]?)∧(∀o,W.frozen? ⟨b,o,none⟩=false)∧b<W.heap.size∧b≠rb∧rb≠b
section
variable {w W w':World} {rb tb cap i j:Nat} {t:Tk} {k kj aj:Int} {g:Prop} {s:Int} {L:List (Nat × Array Value)} {T:List (List Value)} {kv:Value} {vs:List (List Value)} {a b c d:Nat} {x y z u:Array Value}
theorem Mz.fa (q:Mz wt w rb tb cap t i k g s W j kj aj L T kv vs) (n:Nat) {b:Nat} {c:Array Value} (hn:L[n]? =some (b,c)):Fc W rb b c:=by
 obtain⟨h1,h2,h3,h4⟩:=q.at n hn
 exact⟨h1,h2,h3,h4,fun e=>h4 e.symm⟩
theorem Mz.f1 (q:Mz wt w rb tb cap t i k g s W j kj aj ((a,x)::L) T kv vs):Fc W rb a x:=q.fa 0 rfl
theorem Mz.f2 (q:Mz wt w rb tb cap t i k g s W j kj aj ((a,x)::(b,y)::L) T kv vs):Fc W rb a x∧Fc W rb b y∧a≠b∧b≠a:=⟨q.fa 0 rfl,q.fa 1 rfl,q.ne 0 1 rfl rfl (by decide)⟩
theorem Mz.f3 (q:Mz wt w rb tb cap t i k g s W j kj aj ((a,x)::(b,y)::(c,z)::L) T kv vs):Fc W rb a x∧Fc W rb b y∧Fc W rb c z∧(a≠b∧b≠a)∧(a≠c∧c≠a)∧b≠c∧c≠b:=⟨q.fa 0 rfl,q.fa 1 rfl,q.fa 2 rfl,q.ne 0 1 rfl rfl (by decide),q.ne 0 2 rfl rfl (by decide),q.ne 1 2 rfl rfl (by decide)⟩
theorem Mz.f4 (q:Mz wt w rb tb cap t i k g s W j kj aj ((a,x)::(b,y)::(c,z)::(d,u)::L) T kv vs):Fc W rb a x∧Fc W rb b y∧Fc W rb c z∧Fc W rb d u∧(a≠b∧b≠a)∧(a≠c∧c≠a)∧(b≠c∧c≠b)∧(a≠d∧d≠a)∧(b≠d∧d≠b)∧c≠d∧d≠c:=⟨q.fa 0 rfl,q.fa 1 rfl,q.fa 2 rfl,q.fa 3 rfl,q.ne 0 1 rfl rfl (by decide),q.ne 0 2 rfl rfl (by decide),q.ne 1 2 rfl rfl (by decide),q.ne 0 3 rfl rfl (by decide),q.ne 1 3 rfl rfl (by decide),q.ne 2 3 rfl rfl (by decide)⟩
variable {b0 b1 b2 b3:Nat} {c0 c1 c2 c3:Array Value} {ki po n m:Int} {na:ByteArray} {v:Value}
variable {f:Nat} {args:Array Value} {R:Value} {Q:Ending→World→Prop}
variable {kx px nx mx ky py ny my:Int} {ax ay:ByteArray} {vx vy:Value}
variable {B:Nat} {P:ByteArray→Prop}
variable {xs:ByteArray}
variable {D:Int} {C:Int→Prop} {E:List Int→Prop} {must:Prop}
variable {ko ro:Option Addr} {kl kc rl rc:Nat} {ops:Array Oper} {rest:List Oper} {p:Oper} {act:Act} {S:Exit→Act→World→Prop} {sv xo:Operand}
variable {Kk:Act→World→Prop} {Ee:Prop}
end
end Go.Proofs.YtdplogkmkgekdaaGreatDoor
namespace Go.Proofs.YtdplogkmkgekdaaGreatDoor
open Go.RowKit
end Go.Proofs.YtdplogkmkgekdaaGreatDoor
namespace Go.Proofs.YtdplogkmkgekdaaGreatDoor
open Go.RowKit
end Go.Proofs.YtdplogkmkgekdaaGreatDoor
namespace Go.Proofs.YtdplogkmkgekdaaGreatDoor
open Go.RowKit
end Go.Proofs.YtdplogkmkgekdaaGreatDoor
namespace Go.Proofs.YtdplogkmkgekdaaGreatDoor
open Go.RowKit
end Go.Proofs.YtdplogkmkgekdaaGreatDoor
namespace Go.Proofs.YtdplogkmkgekdaaGreatDoor
open Go.RowKit
theorem argK_ty {ks:List Int} {x:Int} (h:argK ks) (hx:tyK x):argK (ks++[x]):=by
 obtain⟨ls,ts,rfl,h1,h2⟩:=h
 exact⟨ls,ts++[x],by simp,h1,all_snoc h2 hx⟩
theorem argK_life {ks:List Int} (h:∀x∈ks,x=19):argK ks:=⟨ks,[],by simp,h,fun x hx=>by cases hx⟩
end Go.Proofs.YtdplogkmkgekdaaGreatDoor
namespace Go.Proofs.YtdplogkmkgekdaaGreatDoor
open Go.RowKit
end Go.Proofs.YtdplogkmkgekdaaGreatDoor
namespace Go.Proofs.YtdplogkmkgekdaaGreatDoor
open Go.RowKit
end Go.Proofs.YtdplogkmkgekdaaGreatDoor
namespace Go.Proofs.YtdplogkmkgekdaaGreatDoor
open Go.RowKit
end Go.Proofs.YtdplogkmkgekdaaGreatDoor
namespace Go.Proofs.YtdplogkmkgekdaaGreatDoor
open Go.RowKit
end Go.Proofs.YtdplogkmkgekdaaGreatDoor
namespace Go.Proofs.YtdplogkmkgekdaaGreatDoor
open Go.RowKit
end Go.Proofs.YtdplogkmkgekdaaGreatDoor
namespace Go.Proofs.YtdplogkmkgekdaaGreatDoor
open Go.RowKit
end Go.Proofs.YtdplogkmkgekdaaGreatDoor
namespace Go.Proofs.YtdplogkmkgekdaaGreatDoor
open Go.RowKit
end Go.Proofs.YtdplogkmkgekdaaGreatDoor
namespace Go.Proofs.YtdplogkmkgekdaaGreatDoor
open Go.RowKit
end Go.Proofs.YtdplogkmkgekdaaGreatDoor
namespace Go.Proofs.YtdplogkmkgekdaaGreatDoor
open Go.RowKit
end Go.Proofs.YtdplogkmkgekdaaGreatDoor
namespace Go.Proofs.YtdplogkmkgekdaaGreatDoor
open Go.RowKit
end Go.Proofs.YtdplogkmkgekdaaGreatDoor
namespace Go.Proofs.YtdplogkmkgekdaaGreatDoor
open Go.RowKit
end Go.Proofs.YtdplogkmkgekdaaGreatDoor
namespace Go.Proofs.YtdplogkmkgekdaaGreatDoor
open Go.RowKit
theorem tot_len (f:Nat) (w:World) (vs:List (List Value)):(vs.length:Int)≤tot 1 (f+1) w vs:=by
 induction vs with
 |nil=>rw[tot_nil];simp
 |cons x vs ih=>
  have h1:1≤nsy 1 (f+1) w x:=by show 1≤1+_;omega
  rw[tot_cons,List.length_cons]
  omega
theorem Mz.list2 {w W w':World} {rb tb cap i j:Nat} {t:Tk} {k kj aj:Int} {g:Prop} {s:Int} {L:List (Nat × Array Value)} {T:List (List Value)} (q:Mz 1 w rb tb cap t i k g s W j kj aj L T (.slice none 0 0) []) {must:Prop} {i':Nat} {k' a':Int} (hx:Nx W rb tb cap t j kj must w' i' k' a') {kv':Value} {vs':List (List Value)} (hK:Kids W.heap.size (k'=0) w' kv' vs') (hz:k'=0→∀f,tot 3 f w' vs'+0≤16*((i':Int) - (j:Int))):Mz 1 w rb tb cap t i k g (s - vs'.length) w' i' k' a' L (vs'++T) kv' vs':=by
 have hz':k'=0→∀f,tot 1 f w' vs'+0≤16*((i':Int) - (j:Int)):=fun e f=>by
  have h1:=hz e f
  have h2:=tot_nonneg 1 f w' vs'
  rw[tot_wt] at h1
  omega
 have q0:=q.list hx hK hz'
 obtain⟨h,ha⟩:=q0.mid.all
 have q1:=q.nx hx
 refine⟨⟨q0.mid.st,q0.mid.le,q0.mid.ok,q0.mid.go,q0.mid.blk,q0.mid.nd,q0.mid.row,q0.mid.rown,h,fun x hx=>ha x ?_⟩,fun e f=>?_⟩
 ·rcases hx with hx|hx
  ·exact .inl hx
  ·rcases List.mem_append.1 hx with hx|hx
   ·exact .inl hx
   ·exact .inr hx
 ·have key:∀f,tot 1 (f+1) w' vs'+tot 1 (f+1) w' (vs'++T)≤16*((i':Int) - (i:Int))+(s - vs'.length):=fun f=>by
   have h1:=hz e (f+1)
   have h2:=tot_len f w' vs'
   have h3:=(q.mid.tots_kp (wt:=1) hx.kp (f+1)).2
   have h4:=q.sz (hx.ok e) (f+1)
   rw[tot_wt] at h1
   rw[tot_append,h3]
   rw[tot_nil] at h4
   omega
  cases f with
  |zero=>
   have h1:=key 0
   have h2:tot 1 0 w' vs'≤tot 1 1 w' vs':=by have:=nsy_mono 1 0 w' vs';simp only[Nat.zero_add] at this;unfold tot;omega
   have h3:tot 1 0 w' (vs'++T)≤tot 1 1 w' (vs'++T):=by have:=nsy_mono 1 0 w' (vs'++T);simp only[Nat.zero_add] at this;unfold tot;omega
   simp only[Nat.zero_add] at h1
   omega
  |succ f=>exact key f
end Go.Proofs.YtdplogkmkgekdaaGreatDoor
namespace Go.Proofs.YtdplogkmkgekdaaGreatDoor
open Go.RowKit
end Go.Proofs.YtdplogkmkgekdaaGreatDoor
namespace Go.Proofs.YtdplogkmkgekdaaGreatDoor
open Go.RowKit
end Go.Proofs.YtdplogkmkgekdaaGreatDoor
namespace Go.Proofs.YtdplogkmkgekdaaGreatDoor
open Go.RowKit
end Go.Proofs.YtdplogkmkgekdaaGreatDoor
namespace Go.Proofs.YtdplogkmkgekdaaGreatDoor
open Go.RowKit
end Go.Proofs.YtdplogkmkgekdaaGreatDoor
namespace Go.Proofs.YtdplogkmkgekdaaGreatDoor
open Go.RowKit
end Go.Proofs.YtdplogkmkgekdaaGreatDoor
namespace Go.Proofs.YtdplogkmkgekdaaGreatDoor
open Go.RowKit
end Go.Proofs.YtdplogkmkgekdaaGreatDoor
namespace Go.Proofs.YtdplogkmkgekdaaGreatDoor
open Go.RowKit
end Go.Proofs.YtdplogkmkgekdaaGreatDoor
namespace Go.Proofs.YtdplogkmkgekdaaGreatDoor
open Go.RowKit
end Go.Proofs.YtdplogkmkgekdaaGreatDoor
namespace Go.Proofs.YtdplogkmkgekdaaGreatDoor
open Go.RowKit
end Go.Proofs.YtdplogkmkgekdaaGreatDoor
namespace Go.Proofs.YtdplogkmkgekdaaGreatDoor
open Go.RowKit
end Go.Proofs.YtdplogkmkgekdaaGreatDoor
namespace Go.Proofs.YtdplogkmkgekdaaGreatDoor
open Go.RowKit
end Go.Proofs.YtdplogkmkgekdaaGreatDoor
namespace Go.Proofs.YtdplogkmkgekdaaGreatDoor
open Go.RowKit
end Go.Proofs.YtdplogkmkgekdaaGreatDoor
namespace Go.Proofs.YtdplogkmkgekdaaGreatDoor
open Go.RowKit
end Go.Proofs.YtdplogkmkgekdaaGreatDoor
namespace Go.Proofs.YtdplogkmkgekdaaGreatDoor
open Go.RowKit
end Go.Proofs.YtdplogkmkgekdaaGreatDoor
namespace Go.Proofs.YtdplogkmkgekdaaGreatDoor
open Go.RowKit
end Go.Proofs.YtdplogkmkgekdaaGreatDoor
namespace Go.Proofs.YtdplogkmkgekdaaGreatDoor
open Go.RowKit
end Go.Proofs.YtdplogkmkgekdaaGreatDoor
namespace Go.Proofs.YtdplogkmkgekdaaGreatDoor
open Go.RowKit
end Go.Proofs.YtdplogkmkgekdaaGreatDoor
namespace Go.Proofs.YtdplogkmkgekdaaGreatDoor
open Go.RowKit
end Go.Proofs.YtdplogkmkgekdaaGreatDoor
namespace Go.Proofs.YtdplogkmkgekdaaGreatDoor
open Go.RowKit
end Go.Proofs.YtdplogkmkgekdaaGreatDoor
namespace Go.Proofs.YtdplogkmkgekdaaGreatDoor
open Go.RowKit
end Go.Proofs.YtdplogkmkgekdaaGreatDoor
namespace Go.Proofs.YtdplogkmkgekdaaGreatDoor
open Go.RowKit
end Go.Proofs.YtdplogkmkgekdaaGreatDoor
namespace Go.Proofs.YtdplogkmkgekdaaGreatDoor
open Go.RowKit
end Go.Proofs.YtdplogkmkgekdaaGreatDoor
namespace Go.Proofs.YtdplogkmkgekdaaGreatDoor
open Go.RowKit
end Go.Proofs.YtdplogkmkgekdaaGreatDoor
namespace Go.Proofs.YtdplogkmkgekdaaGreatDoor
open Go.RowKit
end Go.Proofs.YtdplogkmkgekdaaGreatDoor
namespace Go.Proofs.YtdplogkmkgekdaaGreatDoor
open Go.RowKit
end Go.Proofs.YtdplogkmkgekdaaGreatDoor
namespace Go.Proofs.YtdplogkmkgekdaaGreatDoor
open Go.RowKit
end Go.Proofs.YtdplogkmkgekdaaGreatDoor
namespace Go.Proofs.YtdplogkmkgekdaaGreatDoor
open Go.RowKit
end Go.Proofs.YtdplogkmkgekdaaGreatDoor
namespace Go.Proofs.YtdplogkmkgekdaaGreatDoor
open Go.RowKit
end Go.Proofs.YtdplogkmkgekdaaGreatDoor
namespace Go.Proofs.YtdplogkmkgekdaaGreatDoor
open Go.RowKit
end Go.Proofs.YtdplogkmkgekdaaGreatDoor
