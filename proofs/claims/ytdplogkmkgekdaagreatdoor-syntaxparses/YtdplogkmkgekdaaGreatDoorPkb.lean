/- The middle of a call of the project's parser: its state, the call's own blocks, one row that may still grow, the trees that it holds. -/
import Derived.Test.YtdplogkmkgekdaaGreatDoorPka
import Derived.Test.YtdplogkmkgekdaaGreatDoorMide
set_option linter.all false
set_option maxRecDepth 100000
set_option maxHeartbeats 4000000
namespace Go.Proofs.YtdplogkmkgekdaaGreatDoor.Pj
open Go.RowKit
structure Mid (w:World) (rb tb:Nat) (cap:Cp) (t:Tk) (i:Nat) (k:Int) (g:Prop) (W:World) (j:Nat) (kj aj:Int) (L:List (Nat × Array Value)) (T:List (List Value)) (kv:Value) (vs:List (List Value)):Prop where
 st:St w rb tb cap t W j kj aj
 le:i≤j
 ok:kj=0→k=0
 go:g→kj=0→i<j
 blk:∀(n:Nat) (p:Nat × Array Value),L[n]? =some p→w.heap.size≤adr p∧Blk W (adr p) p.2
 nd:(L.map adr).Nodup
 row:W.ownsRow w.heap.size 28 11 kv vs.length vs.flatten
 rown:∀b,kv.ownBlock=some b→b∉L.map adr
 all:∃h,∀x,x∈vs∨x∈T→isNode (Out w (L.map adr) kv) False h W x
section
variable {w W w':World} {rb tb i j:Nat} {cap:Cp} {t:Tk} {k kj aj:Int} {g:Prop} {L:List (Nat × Array Value)} {T:List (List Value)} {kv:Value} {vs:List (List Value)}
theorem Mid.start {a:Int} (h:Rd w rb tb cap t i k a):Mid w rb tb cap t i k False w i k a [] [] (.slice none 0 0) []:=
 ⟨h.st,Nat.le_refl _,fun e=>e,fun e=>absurd e (fun x=>x),fun n p e=>by simp at e,by simp,World.ownsRow_nil _ _ _ _,fun b e=>by simp,0,fun x hx=>by simp at hx⟩
theorem Mid.lt (q:Mid w rb tb cap t i k g W j kj aj L T kv vs):∀b∈L.map adr,b<W.heap.size:=by
 intro b hb
 obtain⟨p,hp,rfl⟩:=List.mem_map.1 hb
 obtain⟨n,hn⟩:=List.getElem?_of_mem hp
 exact(q.blk n p hn).2.lt
theorem Mid.klt (q:Mid w rb tb cap t i k g W j kj aj L T kv vs):∀b,kv.ownBlock=some b→b<W.heap.size:=fun b hb=>(q.row.lt b hb).2
theorem Mid.rk (q:Mid w rb tb cap t i k g W j kj aj L T kv vs) {i':Nat} {k' a':Int} (h1:Rd w' rb tb cap t i' k' a') (h2:Kp W.heap.size rb W w') (hle:j≤i') (hok:k'=0→kj=0):Mid w rb tb cap t i k g w' i' k' a' L T kv vs:=by
 have hlb:=q.st.lb
 refine⟨q.st.rk h1 h2,Nat.le_trans q.le hle,fun e=>q.ok (hok e),fun x e=>Nat.lt_of_lt_of_le (q.go x (hok e)) hle,fun n p e=>⟨(q.blk n p e).1,(q.blk n p e).2.kp h2 (by have:=(q.blk n p e).1;omega)⟩,q.nd,ownsRow_same q.row (fun b hb hl=>h2.block b hl (by have:=(q.row.lt b hb).1;omega)),q.rown,?_⟩
 obtain⟨h,ha⟩:=q.all
 exact⟨h,fun x hx=>isNode.weaken (fun b hb=>hb) (fun x=>x) _ _ (isNode.frame (Same.kp h2 (fun e=>by have:=e.1;omega)) _ _ (ha x hx))⟩
theorem Mid.nx (q:Mid w rb tb cap t i k g W j kj aj L T kv vs) {must:Prop} {i':Nat} {k' a':Int} (hx:Nx W rb tb cap t j kj must w' i' k' a'):Mid w rb tb cap t i k g w' i' k' a' L T kv vs:=q.rk hx.rd hx.kp hx.le hx.ok
theorem Mid.up (q:Mid w rb tb cap t i k g W j kj aj L T kv vs) {g':Prop} (hg:g'→kj=0→i<j):Mid w rb tb cap t i k g' W j kj aj L T kv vs:=⟨q.st,q.le,q.ok,hg,q.blk,q.nd,q.row,q.rown,q.all⟩
theorem Mid.nxm (q:Mid w rb tb cap t i k g W j kj aj L T kv vs) {i':Nat} {k' a':Int} (hx:Nx W rb tb cap t j kj True w' i' k' a'):Mid w rb tb cap t i k True w' i' k' a' L T kv vs:=(q.nx hx).up (fun _ e=>Nat.lt_of_le_of_lt q.le (hx.go trivial e))
theorem Mid.below (q:Mid w rb tb cap t i k g W j kj aj L T kv vs) (hb:Below W.heap.size W w'):Mid w rb tb cap t i k g w' j kj aj L T kv vs:=q.nx (Nx.below q.st.rd hb)
theorem Mid.drew (q:Mid w rb tb cap t i k g W j kj aj L T kv vs):Mid w rb tb cap t i k g W.drew j kj aj L T kv vs:=q.below (Below.refl _ _).drew
theorem Mid.alloc (q:Mid w rb tb cap t i k g W j kj aj L T kv vs) (o:Obj):Mid w rb tb cap t i k g (W.alloc o) j kj aj L T kv vs:=q.below ((Below.refl _ _).alloc (Nat.le_refl _) o)
theorem Mid.new (q:Mid w rb tb cap t i k g W j kj aj L T kv vs) (c:Array Value):Mid w rb tb cap t i k g (W.alloc (.cells c 28)) j kj aj ((W.heap.size,c)::L) T kv vs:=by
 have q1:=q.alloc (.cells c 28)
 refine⟨q1.st,q1.le,q1.ok,q1.go,?_,?_,q1.row,?_,?_⟩
 ·intro n p e
  cases n with
  |zero=>
   obtain rfl:(W.heap.size,c)=p:=by simpa using e
   exact⟨q.st.size,Blk.new W c⟩
  |succ n=>exact q1.blk n p (by simpa using e)
 ·rw[List.map_cons,List.nodup_cons]
  exact⟨fun e=>absurd (q.lt _ e) (Nat.lt_irrefl _),q.nd⟩
 ·intro b hb e
  rw[List.map_cons,List.mem_cons] at e
  rcases e with e|e
  ·have:=q.klt b hb
   simp[adr] at e
   omega
  ·exact q.rown b hb e
 ·obtain⟨h,ha⟩:=q.all
  refine⟨h,fun x hx=>isNode.frame (Same.alloc _ _ _) _ _ (isNode.weaken ?_ (fun x=>x) _ _ (isNode.low _ _ (ha x hx)))⟩
  rintro b ⟨⟨h1,h2,h3⟩,h4⟩
  refine⟨h1,?_,h3⟩
  rw[List.map_cons,List.mem_cons]
  rintro(e|e)
  ·simp[adr] at e;omega
  ·exact h2 e
theorem map_set_adr {n b:Nat} {c c':Array Value} (hn:L[n]? =some (b,c)):(L.set n (b,c')).map adr=L.map adr:=by
 apply List.ext_getElem?
 intro m
 rw[List.getElem?_map,List.getElem?_map,List.getElem?_set]
 by_cases e:n=m
 ·subst e
  rw[if_pos rfl,hn]
  have:n<L.length:=(List.getElem?_eq_some_iff.1 hn).1
  simp[this,adr]
 ·rw[if_neg e]
theorem Mid.put (q:Mid w rb tb cap t i k g W j kj aj L T kv vs) (n:Nat) {b:Nat} {c:Array Value} (hn:L[n]? =some (b,c)) (o:Nat) (u:Value):Mid w rb tb cap t i k g (W.setCell ⟨b,o,none⟩ u) j kj aj (L.set n (b,c.setIfInBounds o u)) T kv vs:=by
 have hb:=(q.blk n _ hn).1
 have hB:=(q.blk n _ hn).2
 have hmem:b∈L.map adr:=List.mem_map.2 ⟨_,List.mem_of_getElem? hn,rfl⟩
 have hmap:(L.set n (b,c.setIfInBounds o u)).map adr=L.map adr:=map_set_adr hn
 refine⟨q.st.put hb o u,q.le,q.ok,q.go,?_,by rw[hmap];exact q.nd,?_,by rw[hmap];exact q.rown,?_⟩
 ·intro m p e
  rw[List.getElem?_set] at e
  by_cases hm:n=m
  ·subst hm
   rw[if_pos rfl] at e
   have hl:n<L.length:=(List.getElem?_eq_some_iff.1 hn).1
   rw[if_pos hl] at e
   obtain rfl:(b,c.setIfInBounds o u)=p:=by simpa using e
   exact⟨hb,hB.set o u⟩
  ·rw[if_neg hm] at e
   refine⟨(q.blk m p e).1,(q.blk m p e).2.other (p:=⟨b,o,none⟩) (fun e2=>hm ?_) u⟩
   have hl:n<(L.map adr).length:=by rw[List.length_map];exact(List.getElem?_eq_some_iff.1 hn).1
   refine(List.getElem?_inj hl q.nd).1 ?_
   rw[List.getElem?_map,List.getElem?_map,hn,e]
   show some b=some (adr p)
   rw[e2]
 ·exact ownsRow_same q.row (fun x hx _=>Below.heap_setCell _ _ _ _ (fun e=>q.rown x hx (by rw[e];exact hmem)))
 ·obtain⟨h,ha⟩:=q.all
  rw[hmap]
  exact⟨h,fun x hx=>isNode.frame (Same.setCell _ ⟨b,o,none⟩ _ (fun e=>e.2.1 hmem)) _ _ (ha x hx)⟩
theorem Mid.goI (q:Mid w rb tb cap t i k g W j kj aj L T kv vs) {j':Nat} (hj:j'<t.len) (hle:j<j'):Mid w rb tb cap t i k True (W.setCell ⟨rb,1,none⟩ (.int .i64 j')) j' kj aj L T kv vs:=
 (q.rk (q.st.rd.setI hj) (Kp.setCell (p:=⟨rb,1,none⟩) (Kp.refl _ _ _) (.inr rfl) _) (Nat.le_of_lt hle) (fun e=>e)).up (fun _ _=>Nat.lt_of_le_of_lt q.le hle)
theorem Mid.hold (q:Mid w rb tb cap t i k g W j kj aj L T kv vs) {B:Nat} (h0:w.heap.size≤B) (h1:∀b∈L.map adr,b<B) (h2:∀b,kv.ownBlock=some b→b<B) {c:List Value} (hn:NodeIn B False W c):Mid w rb tb cap t i k g W j kj aj L (c::T) kv vs:=by
 obtain⟨h,ha⟩:=q.all
 obtain⟨h',hc⟩:=hn
 refine⟨q.st,q.le,q.ok,q.go,q.blk,q.nd,q.row,q.rown,max h h',fun x hx=>?_⟩
 have hx':(x∈vs∨x∈T)∨x=c:=by
  rcases hx with hx|hx
  ·exact .inl (.inl hx)
  ·rcases List.mem_cons.1 hx with hx|hx
   ·exact .inr hx
   ·exact .inl (.inr hx)
 rcases hx' with hx|rfl
 ·exact isNode.le (ha x hx) _ (Nat.le_max_left _ _)
 ·exact isNode.le (isNode.weaken (fun b hb=>⟨Nat.le_trans h0 hb,fun e=>absurd (h1 b e) (Nat.not_lt.2 hb),fun e=>absurd (h2 b e) (Nat.not_lt.2 hb)⟩) (fun x=>x) _ _ hc) _ (Nat.le_max_right _ _)
theorem Mid.node (q:Mid w rb tb cap t i k g W j kj aj L T kv vs) {must:Prop} {i':Nat} {k' a':Int} (hx:Nx W rb tb cap t j kj must w' i' k' a') {c:List Value} (hn:NodeIn W.heap.size False w' c):Mid w rb tb cap t i k g w' i' k' a' L (c::T) kv vs:=
 (q.nx hx).hold q.st.size q.lt q.klt hn
theorem Mid.nodem (q:Mid w rb tb cap t i k g W j kj aj L T kv vs) {i':Nat} {k' a':Int} (hx:Nx W rb tb cap t j kj True w' i' k' a') {c:List Value} (hn:NodeIn W.heap.size False w' c):Mid w rb tb cap t i k True w' i' k' a' L (c::T) kv vs:=
 (q.nxm hx).hold q.st.size q.lt q.klt hn
theorem Mid.holds (q:Mid w rb tb cap t i k g W j kj aj L T kv vs) {must:Prop} {i':Nat} {k' a':Int} (hx:Nx W rb tb cap t j kj must w' i' k' a') {kv':Value} {vs':List (List Value)} (hK:Kids W.heap.size False w' kv' vs'):Mid w rb tb cap t i k g w' i' k' a' L (vs'++T) kv vs:=by
 have q1:=q.nx hx
 obtain⟨h,ha⟩:=q1.all
 obtain⟨h',hc⟩:=hK.all
 refine⟨q1.st,q1.le,q1.ok,q1.go,q1.blk,q1.nd,q1.row,q1.rown,max h h',fun x hx=>?_⟩
 have hx':(x∈vs∨x∈T)∨x∈vs':=by
  rcases hx with hx|hx
  ·exact .inl (.inl hx)
  ·rcases List.mem_append.1 hx with hx|hx
   ·exact .inr hx
   ·exact .inl (.inr hx)
 rcases hx' with hx|hx
 ·exact isNode.le (ha x hx) _ (Nat.le_max_left _ _)
 ·exact isNode.le (isNode.weaken (fun b hb=>⟨Nat.le_trans q.st.size hb.1,fun e=>absurd (q.lt b e) (Nat.not_lt.2 hb.1),fun e=>absurd (q.klt b e) (Nat.not_lt.2 hb.1)⟩) (fun x=>x) _ _ (hc x hx)) _ (Nat.le_max_right _ _)
theorem Mid.list (q:Mid w rb tb cap t i k g W j kj aj L T (.slice none 0 0) []) {must:Prop} {i':Nat} {k' a':Int} (hx:Nx W rb tb cap t j kj must w' i' k' a') {kv':Value} {vs':List (List Value)} (hK:Kids W.heap.size False w' kv' vs'):Mid w rb tb cap t i k g w' i' k' a' L T kv' vs':=by
 have q1:=q.nx hx
 obtain⟨h,ha⟩:=q.all
 obtain⟨h',hc⟩:=hK.all
 refine⟨q1.st,q1.le,q1.ok,q1.go,q1.blk,q1.nd,ownsRow_mono hK.row q.st.size,fun b hb e=>absurd (q.lt b e) (Nat.not_lt.2 (hK.row.lt b hb).1),max h h',fun x hx'=>?_⟩
 rcases hx' with hx'|hx'
 ·exact isNode.le (isNode.weaken (fun b hb=>⟨Nat.le_trans q.st.size hb.1,fun e=>absurd (q.lt b e) (Nat.not_lt.2 hb.1),hb.2⟩) (fun x=>x) _ _ (hc x hx')) _ (Nat.le_max_right _ _)
 ·have a1:=isNode.frame (Same.kp hx.kp (fun e=>by have:=e.1.1;have:=q.st.lb;omega)) _ _ (isNode.low _ _ (ha x (.inr hx')))
  refine isNode.le (isNode.weaken ?_ (fun x=>x) _ _ a1) _ (Nat.le_max_left _ _)
  rintro b ⟨⟨h1,h2,_⟩,h4⟩
  exact⟨h1,h2,fun e=>absurd (hK.row.lt b e).1 (Nat.not_le.2 h4)⟩
theorem Mid.sub (q:Mid w rb tb cap t i k g W j kj aj L T kv vs) {T':List (List Value)} (hT:∀x∈T',x∈T):Mid w rb tb cap t i k g W j kj aj L T' kv vs:=by
 obtain⟨h,ha⟩:=q.all
 exact⟨q.st,q.le,q.ok,q.go,q.blk,q.nd,q.row,q.rown,h,fun x hx=>ha x (hx.imp (fun x=>x) (hT x))⟩
theorem Mid.app {us:List (List Value)} (q:Mid w rb tb cap t i k g W j kj aj L (us++T) kv vs) {v':Value} (hown:w'.ownsRow w.heap.size 28 11 v' (vs.length+us.length) (vs.flatten++us.flatten)) (hg:W.grownBy w' kv.ownBlock) (hv:v'.ownBlock=kv.ownBlock∨v'.ownBlock=some W.heap.size):Mid w rb tb cap t i k g w' j kj aj L T v' (vs++us):=by
 obtain⟨h,ha⟩:=q.all
 refine⟨q.st.grown hg (fun b hb=>(q.row.lt b hb).1),q.le,q.ok,q.go,fun n p e=>⟨(q.blk n p e).1,(q.blk n p e).2.grown hg (fun e2=>q.rown _ e2.symm (List.mem_map.2 ⟨p,List.mem_of_getElem? e,rfl⟩))⟩,q.nd,by simpa using hown,?_,h,fun x hx=>?_⟩
 ·intro b hb e
  rcases hv with hv|hv
  ·exact q.rown b (by rw[←hv];exact hb) e
  ·rw[hv] at hb
   have:=q.lt b e
   simp at hb
   omega
 ·have hx':x∈vs∨x∈us++T:=by
   rcases hx with hx|hx
   ·rcases List.mem_append.1 hx with hx|hx
    ·exact .inl hx
    ·exact .inr (List.mem_append.2 (.inl hx))
   ·exact .inr (List.mem_append.2 (.inr hx))
  refine isNode.weaken ?_ (fun x=>x) _ _ (isNode.frame (Same.grown hg (fun b e hb=>hb.1.2.2 e)) _ _ (isNode.low _ _ (ha x hx')))
  rintro b ⟨⟨h1,h2,h3⟩,h4⟩
  refine⟨h1,h2,?_⟩
  rcases hv with hv|hv
  ·rw[hv];exact h3
  ·rw[hv];intro e;simp at e;omega
theorem Mid.snoc {c:List Value} (q:Mid w rb tb cap t i k g W j kj aj L (c::T) kv vs) {v':Value} (hown:w'.ownsRow w.heap.size 28 11 v' (vs.length+1) (vs.flatten++c)) (hg:W.grownBy w' kv.ownBlock) (hv:v'.ownBlock=kv.ownBlock∨v'.ownBlock=some W.heap.size):Mid w rb tb cap t i k g w' j kj aj L T v' (vs++[c]):=
 Mid.app (us:=[c]) q (by simpa using hown) hg hv
theorem Mid.made {us:List (List Value)} (q:Mid w rb tb cap t i k g W j kj aj L (us++T) (.slice none 0 0) []) (cs:Array Value) (hcs:cs.toList=us.flatten) (hl:us.length≤20000) (h11:∀x∈us,x.length=11) {ad n:Nat} (had:ad=W.heap.size) (hn:n=us.length):
 Mid w rb tb cap t i k g (W.alloc (.cells cs 28)) j kj aj L T (.slice (some ⟨ad,0,none⟩) n n) us:=by
 subst had hn
 have q1:=q.alloc (.cells cs 28)
 have hsz:us.flatten.length=us.length*11:=by
  clear hcs hl q q1
  induction us with
  |nil=>rfl
  |cons x r ih=>simp only[List.flatten_cons,List.length_append,List.length_cons];rw[ih (fun y hy=>h11 y (List.mem_cons_of_mem _ hy)),h11 x (List.mem_cons_self ..)];omega
 have hrow:=World.ownsRow_lit (base:=w.heap.size) (e:=28) (size:=11) W cs us.length q.st.size (by unfold maxLen;omega) (by rw[←Array.length_toList,hcs,hsz])
 rw[hcs] at hrow
 obtain⟨h,ha⟩:=q.all
 refine⟨q1.st,q1.le,q1.ok,q1.go,q1.blk,q1.nd,hrow,?_,h,fun x hx=>isNode.frame (Same.alloc _ _ _) _ _ (isNode.weaken ?_ (fun x=>x) _ _ (isNode.low _ _ (ha x (.inr (List.mem_append.2 hx)))))⟩
 ·intro b hb e
  have:=q.lt b e
  simp[Value.ownBlock] at hb
  omega
 ·rintro b ⟨⟨h1,h2,_⟩,h4⟩
  refine⟨h1,h2,fun e=>?_⟩
  simp[Value.ownBlock] at e
  omega
theorem Mid.fold (q:Mid w rb tb cap t i k g W j kj aj L T kv vs) (hl:vs.length≤20000) {kind pos n m:Int} {name:ByteArray} (hn:name.size≤20000) (hp:0≤pos∧pos≤7000) (hG:False→Gr kind n m name (vs.map labOf)):Mid w rb tb cap t i k g W j kj aj L ((nodeC kind pos n m name kv).toList::T) (.slice none 0 0) []:=by
 obtain⟨h,ha⟩:=q.all
 have wk:∀x,x∈vs∨x∈T→isNode (Out w (L.map adr) (.slice none 0 0)) False h W x:=fun x hx=>isNode.weaken (fun b hb=>⟨hb.1,hb.2.1,by simp[Value.ownBlock]⟩) (fun x=>x) _ _ (ha x hx)
 refine⟨q.st,q.le,q.ok,q.go,q.blk,q.nd,World.ownsRow_nil _ _ _ _,fun b e=>by simp[Value.ownBlock] at e,h+1,fun x hx=>?_⟩
 have hx':x=(nodeC kind pos n m name kv).toList∨x∈T:=by
  rcases hx with hx|hx
  ·simp at hx
  ·exact List.mem_cons.1 hx
 rcases hx' with rfl|hx
 ·exact⟨kind,pos,n,m,name,kv,vs,rfl,hn,hp,hl,ownsRow_mono q.row (Nat.zero_le _),fun b hb=>⟨(q.row.lt b hb).1,q.rown b hb,by simp[Value.ownBlock]⟩,fun x hx=>wk x (.inl hx),hG⟩
 ·exact isNode.up _ _ (wk x (.inr hx))
theorem Mid.tree {c:List Value} (q:Mid w rb tb cap t i k g W j kj aj L (c::T) kv vs) {n:Nat} {z:Array Value} (hz:L[n]? =some (w.heap.size,z)):NodeIn (w.heap.size+1) False W c:=by
 obtain⟨h,ha⟩:=q.all
 refine⟨h,isNode.weaken (fun b hb=>?_) (fun x=>x) _ _ (ha c (.inr (List.mem_cons_self ..)))⟩
 have h1:=hb.1
 have h2:b≠w.heap.size:=fun e=>hb.2.1 (List.mem_map.2 ⟨_,List.mem_of_getElem? hz,e▸rfl⟩)
 omega
theorem Mid.at (q:Mid w rb tb cap t i k g W j kj aj L T kv vs) (n:Nat) {b:Nat} {c:Array Value} (hn:L[n]? =some (b,c)):(∀o,W.cell? ⟨b,o,none⟩=c[o]?)∧(∀o,W.frozen? ⟨b,o,none⟩=false)∧b<W.heap.size∧b≠rb:=by
 have h1:=q.blk n _ hn
 have h2:=q.st.lb
 exact⟨h1.2.cell,h1.2.fz,h1.2.lt,by have:=h1.1;simp only[adr] at this;omega⟩
theorem Mid.ne (q:Mid w rb tb cap t i k g W j kj aj L T kv vs) (n m:Nat) {b b':Nat} {c c':Array Value} (hn:L[n]? =some (b,c)) (hm:L[m]? =some (b',c')) (h:n≠m):b≠b'∧b'≠b:=by
 have:b≠b':=by
  intro e
  have hl:n<(L.map adr).length:=by rw[List.length_map];exact(List.getElem?_eq_some_iff.1 hn).1
  refine h ((List.getElem?_inj hl q.nd).1 ?_)
  rw[List.getElem?_map,List.getElem?_map,hn,hm]
  show some b=some b'
  rw[e]
 exact⟨this,fun e=>this e.symm⟩
theorem Mid.shape (q:Mid w rb tb cap t i k g W j kj aj L T kv vs):∃ao cp,kv=.slice ao vs.length cp:=by
 rcases q.row.2 with⟨h1,h2⟩|⟨b,cap,cur,h1,_⟩
 ·exact⟨none,0,by rw[h1,h2]⟩
 ·exact⟨_,_,h1⟩
end
section
variable {w W w':World} {rb tb i j:Nat} {cap:Cp} {t:Tk} {k kj aj:Int} {g:Prop} {L:List (Nat × Array Value)} {T:List (List Value)} {kv:Value} {vs:List (List Value)}
theorem Mid.run_app {us:List (List Value)} (q:Mid w rb tb cap t i k g W j kj aj L (us++T) kv vs) (hv:vs.length≤19000) (hu:us.length≤6010) (ty:TypeId) {xv:Value} (hx:(xv=.slice none 0 0∧us=[])∨∃ad c,xv=.slice (some ad) us.length c∧∀j u,us.flatten[j]? =some u→W.cell? (ad.add j)=some u):
 ∃v' w',(Builtin.append_ #[22,22] ty #[kv,xv]).run Tryz.prog W=.ok v' w'∧∃ao cp,v'=.slice ao (vs.length+us.length) cp∧Mid w rb tb cap t i k g w' j kj aj L T (.slice ao (vs.length+us.length) cp) (vs++us):=by
 obtain⟨i0,hi0,hz0,hz1,hz2⟩:=info_parts info46
 rcases hx with⟨rfl,rfl⟩|⟨ad,c,rfl,hc⟩
 ·refine⟨kv,W,run_append_owned_none (P:=Tryz.prog) (w:=W) w.heap.size 22 ty 28 i0 11 Tryz.underlying22 hi0 kv vs.length vs.flatten q.row,?_⟩
  obtain⟨ao,cp,e⟩:=q.shape
  refine⟨ao,cp,by simpa using e,?_⟩
  have q2:Mid w rb tb cap t i k g W j kj aj L T kv (vs++[]):=by simpa using q
  rw[e] at q2
  simpa using q2
 ·obtain⟨h,ha⟩:=q.all
  obtain⟨f1,f2⟩:=flat_ones (us:=us) (fun x hx=>isNode.ones _ _ (ha x (.inr (List.mem_append.2 (.inl hx)))))
  obtain⟨v',w',hr,h2,h3,_,h5⟩:=run_append_own_at (P:=Tryz.prog) W w.heap.size 22 ty 28 i0 _ 11 160 Tryz.underlying22 hi0 hz0 hz1 hz2 rfl (by decide) kv vs.length vs.flatten q.row ad us.length c us.flatten f1 hc f2 (by unfold maxLen;omega) (by omega) q.st.size
  have q1:=q.app h2 h3 h5
  obtain⟨ao,cp,e⟩:=q1.shape
  rw[List.length_append] at e
  subst e
  exact⟨_,w',hr,ao,cp,rfl,q1⟩
theorem Mid.run_app1 {kind pos n m:Int} {name:ByteArray} {ko:Option Addr} {kl kc:Nat} (q:Mid w rb tb cap t i k g W j kj aj L ((nodeC kind pos n m name (.slice ko kl kc)).toList::T) kv vs) (hv:vs.length≤19000) (ty:TypeId) {ad:Nat} (had:ad=W.heap.size):
 ∃v' w',(Builtin.append_ #[22,22] ty #[kv,.slice (some ⟨ad,0,none⟩) 1 1]).run Tryz.prog (W.alloc (.cells (nodeC kind pos n m name (.slice ko kl kc)) 28))=.ok v' w'∧∃ao cp,v'=.slice ao (vs.length+1) cp∧Mid w rb tb cap t i k g w' j kj aj L T (.slice ao (vs.length+1) cp) (vs++[(nodeC kind pos n m name (.slice ko kl kc)).toList]):=by
 subst had
 exact Mid.run_app (us:=[(nodeC kind pos n m name (.slice ko kl kc)).toList]) (q.alloc _) hv (by simp) ty (.inr ⟨_,_,rfl,by simpa using cells11_new W kind pos n m name (.slice ko kl kc) 28⟩)
theorem Mid.run_apps {us:List (List Value)} {ao:Option Addr} {cp B:Nat} {G:Prop} (q:Mid w rb tb cap t i k g W j kj aj L (us++T) kv vs) (hK:Kids B G W (.slice ao us.length cp) us) (hv:vs.length≤19000) (hu:us.length≤6010) (ty:TypeId):
 ∃v' w',(Builtin.append_ #[22,22] ty #[kv,.slice ao us.length cp]).run Tryz.prog W=.ok v' w'∧∃ao cp,v'=.slice ao (vs.length+us.length) cp∧Mid w rb tb cap t i k g w' j kj aj L T (.slice ao (vs.length+us.length) cp) (vs++us):=by
 refine q.run_app hv hu ty ?_
 rcases hK.row.2 with⟨h1,h2⟩|⟨b,c2,cur,h1,_⟩
 ·exact .inl ⟨by simpa using h1,List.eq_nil_of_length_eq_zero h2⟩
 ·obtain⟨rfl,_,rfl⟩:ao=some ⟨b,0,none⟩∧us.length=us.length∧cp=c2:=by simpa using h1
  exact .inr ⟨_,_,rfl,hK.row.cells (g:=b) rfl⟩
theorem Mid.newAt (q:Mid w rb tb cap t i k g W j kj aj L T kv vs) {ad:Nat} (had:ad=W.heap.size) (c:Array Value):Mid w rb tb cap t i k g (W.alloc (.cells c 28)) j kj aj ((ad,c)::L) T kv vs:=had▸q.new c
theorem Mid.put' {n b:Nat} {c:Array Value} (q:Mid w rb tb cap t i k g W j kj aj (L.set n (b,c)) T kv vs) (hl:n<L.length) (o:Nat) (u:Value):Mid w rb tb cap t i k g (W.setCell ⟨b,o,none⟩ u) j kj aj (L.set n (b,c.setIfInBounds o u)) T kv vs:=by
 have:=q.put n (b:=b) (c:=c) (by rw[List.getElem?_set,if_pos rfl,if_pos hl]) o u
 rwa [List.set_set] at this
theorem Mid.put11 (q:Mid w rb tb cap t i k g W j kj aj L T kv vs) (n:Nat) {b:Nat} {d0 d1 d2 d3 d4 d5 d6 d7 d8 d9 d10:Value} (hn:L[n]? =some (b,#[d0,d1,d2,d3,d4,d5,d6,d7,d8,d9,d10])) (c0 c1 c2 c3 c4 c5 c6 c7 c8 c9 c10:Value):Mid w rb tb cap t i k g (set11 W b c0 c1 c2 c3 c4 c5 c6 c7 c8 c9 c10) j kj aj (L.set n (b,#[c0,c1,c2,c3,c4,c5,c6,c7,c8,c9,c10])) T kv vs:=by
 have hl:n<L.length:=(List.getElem?_eq_some_iff.1 hn).1
 have q0:Mid w rb tb cap t i k g (W.setCell ⟨b,0,none⟩ c0) j kj aj (L.set n (b,#[c0,d1,d2,d3,d4,d5,d6,d7,d8,d9,d10])) T kv vs:=q.put n hn 0 c0
 have q1:Mid w rb tb cap t i k g ((W.setCell ⟨b,0,none⟩ c0).setCell ⟨b,1,none⟩ c1) j kj aj (L.set n (b,#[c0,c1,d2,d3,d4,d5,d6,d7,d8,d9,d10])) T kv vs:=q0.put' hl 1 c1
 have q2:Mid w rb tb cap t i k g (((W.setCell ⟨b,0,none⟩ c0).setCell ⟨b,1,none⟩ c1).setCell ⟨b,2,none⟩ c2) j kj aj (L.set n (b,#[c0,c1,c2,d3,d4,d5,d6,d7,d8,d9,d10])) T kv vs:=q1.put' hl 2 c2
 have q3:Mid w rb tb cap t i k g ((((W.setCell ⟨b,0,none⟩ c0).setCell ⟨b,1,none⟩ c1).setCell ⟨b,2,none⟩ c2).setCell ⟨b,3,none⟩ c3) j kj aj (L.set n (b,#[c0,c1,c2,c3,d4,d5,d6,d7,d8,d9,d10])) T kv vs:=q2.put' hl 3 c3
 have q4:Mid w rb tb cap t i k g (((((W.setCell ⟨b,0,none⟩ c0).setCell ⟨b,1,none⟩ c1).setCell ⟨b,2,none⟩ c2).setCell ⟨b,3,none⟩ c3).setCell ⟨b,4,none⟩ c4) j kj aj (L.set n (b,#[c0,c1,c2,c3,c4,d5,d6,d7,d8,d9,d10])) T kv vs:=q3.put' hl 4 c4
 have q5:Mid w rb tb cap t i k g ((((((W.setCell ⟨b,0,none⟩ c0).setCell ⟨b,1,none⟩ c1).setCell ⟨b,2,none⟩ c2).setCell ⟨b,3,none⟩ c3).setCell ⟨b,4,none⟩ c4).setCell ⟨b,5,none⟩ c5) j kj aj (L.set n (b,#[c0,c1,c2,c3,c4,c5,d6,d7,d8,d9,d10])) T kv vs:=q4.put' hl 5 c5
 have q6:Mid w rb tb cap t i k g (((((((W.setCell ⟨b,0,none⟩ c0).setCell ⟨b,1,none⟩ c1).setCell ⟨b,2,none⟩ c2).setCell ⟨b,3,none⟩ c3).setCell ⟨b,4,none⟩ c4).setCell ⟨b,5,none⟩ c5).setCell ⟨b,6,none⟩ c6) j kj aj (L.set n (b,#[c0,c1,c2,c3,c4,c5,c6,d7,d8,d9,d10])) T kv vs:=q5.put' hl 6 c6
 have q7:Mid w rb tb cap t i k g ((((((((W.setCell ⟨b,0,none⟩ c0).setCell ⟨b,1,none⟩ c1).setCell ⟨b,2,none⟩ c2).setCell ⟨b,3,none⟩ c3).setCell ⟨b,4,none⟩ c4).setCell ⟨b,5,none⟩ c5).setCell ⟨b,6,none⟩ c6).setCell ⟨b,7,none⟩ c7) j kj aj (L.set n (b,#[c0,c1,c2,c3,c4,c5,c6,c7,d8,d9,d10])) T kv vs:=q6.put' hl 7 c7
 have q8:Mid w rb tb cap t i k g (((((((((W.setCell ⟨b,0,none⟩ c0).setCell ⟨b,1,none⟩ c1).setCell ⟨b,2,none⟩ c2).setCell ⟨b,3,none⟩ c3).setCell ⟨b,4,none⟩ c4).setCell ⟨b,5,none⟩ c5).setCell ⟨b,6,none⟩ c6).setCell ⟨b,7,none⟩ c7).setCell ⟨b,8,none⟩ c8) j kj aj (L.set n (b,#[c0,c1,c2,c3,c4,c5,c6,c7,c8,d9,d10])) T kv vs:=q7.put' hl 8 c8
 have q9:Mid w rb tb cap t i k g ((((((((((W.setCell ⟨b,0,none⟩ c0).setCell ⟨b,1,none⟩ c1).setCell ⟨b,2,none⟩ c2).setCell ⟨b,3,none⟩ c3).setCell ⟨b,4,none⟩ c4).setCell ⟨b,5,none⟩ c5).setCell ⟨b,6,none⟩ c6).setCell ⟨b,7,none⟩ c7).setCell ⟨b,8,none⟩ c8).setCell ⟨b,9,none⟩ c9) j kj aj (L.set n (b,#[c0,c1,c2,c3,c4,c5,c6,c7,c8,c9,d10])) T kv vs:=q8.put' hl 9 c9
 have q10:Mid w rb tb cap t i k g (((((((((((W.setCell ⟨b,0,none⟩ c0).setCell ⟨b,1,none⟩ c1).setCell ⟨b,2,none⟩ c2).setCell ⟨b,3,none⟩ c3).setCell ⟨b,4,none⟩ c4).setCell ⟨b,5,none⟩ c5).setCell ⟨b,6,none⟩ c6).setCell ⟨b,7,none⟩ c7).setCell ⟨b,8,none⟩ c8).setCell ⟨b,9,none⟩ c9).setCell ⟨b,10,none⟩ c10) j kj aj (L.set n (b,#[c0,c1,c2,c3,c4,c5,c6,c7,c8,c9,c10])) T kv vs:=q9.put' hl 10 c10
 exact q10
theorem Mid.swap {a b:List Value} (q:Mid w rb tb cap t i k g W j kj aj L (a::b::T) kv vs):Mid w rb tb cap t i k g W j kj aj L (b::a::T) kv vs:=
 q.sub (fun x hx=>by simp only[List.mem_cons] at hx⊢;rcases hx with h|h|h<;>simp[h])
theorem Mid.drop {a:List Value} (q:Mid w rb tb cap t i k g W j kj aj L (a::T) kv vs):Mid w rb tb cap t i k g W j kj aj L T kv vs:=q.sub (fun _ hx=>List.mem_cons_of_mem _ hx)
theorem Mid.lit {us:List (List Value)} (q:Mid w rb tb cap t i k g W j kj aj L (us++T) kv vs) (cs:Array Value) (hcs:cs.toList=us.flatten) (hl:us.length≤20000) (h11:∀x∈us,x.length=11) {ad c:Nat} (had:ad=W.heap.size) (hc:c=us.length)
 {kind pos n m:Int} {name:ByteArray} (hn:name.size≤20000) (hp:0≤pos∧pos≤7000) (hG:False→Gr kind n m name (us.map labOf)):Mid w rb tb cap t i k g (W.alloc (.cells cs 28)) j kj aj L ((nodeC kind pos n m name (.slice (some ⟨ad,0,none⟩) c c)).toList::T) kv vs:=by
 subst had hc
 have q1:=q.alloc (.cells cs 28)
 have hsz:us.flatten.length=us.length*11:=by
  clear hcs hl q q1 hG
  induction us with
  |nil=>rfl
  |cons x r ih=>simp only[List.flatten_cons,List.length_append,List.length_cons];rw[ih (fun y hy=>h11 y (List.mem_cons_of_mem _ hy)),h11 x (List.mem_cons_self ..)];omega
 have hrow:=World.ownsRow_lit (base:=0) (e:=28) (size:=11) W cs us.length (Nat.zero_le _) (by unfold maxLen;omega) (by rw[←Array.length_toList,hcs,hsz])
 rw[hcs] at hrow
 obtain⟨h,ha⟩:=q1.all
 refine⟨q1.st,q1.le,q1.ok,q1.go,q1.blk,q1.nd,q1.row,q1.rown,h+1,fun x hx=>?_⟩
 have hx':x=(nodeC kind pos n m name (.slice (some ⟨W.heap.size,0,none⟩) us.length us.length)).toList∨(x∈vs∨x∈us++T):=by
  rcases hx with hx|hx
  ·exact .inr (.inl hx)
  ·rcases List.mem_cons.1 hx with hx|hx
   ·exact .inl hx
   ·exact .inr (.inr (List.mem_append.2 (.inr hx)))
 rcases hx' with rfl|hx
 ·refine⟨kind,pos,n,m,name,_,us,rfl,hn,hp,hl,hrow,fun b hb=>?_,fun x hx=>ha x (.inr (List.mem_append.2 (.inl hx))),hG⟩
  obtain rfl:W.heap.size=b:=by simpa[Value.ownBlock] using hb
  exact⟨q.st.size,fun e=>absurd (q.lt _ e) (Nat.lt_irrefl _),fun e=>absurd (q.klt _ e) (Nat.lt_irrefl _)⟩
 ·exact isNode.up _ _ (ha x hx)
theorem Mid.leaf (q:Mid w rb tb cap t i k g W j kj aj L T kv vs) {kind pos n m:Int} {name:ByteArray} (hn:name.size≤20000) (hp:0≤pos∧pos≤7000) (hG:False→Gr kind n m name []):Mid w rb tb cap t i k g W j kj aj L ((nodeC kind pos n m name (.slice none 0 0)).toList::T) kv vs:=by
 obtain⟨h,ha⟩:=q.all
 refine⟨q.st,q.le,q.ok,q.go,q.blk,q.nd,q.row,q.rown,h+1,fun x hx=>?_⟩
 have hx':x=(nodeC kind pos n m name (.slice none 0 0)).toList∨(x∈vs∨x∈T):=by
  rcases hx with hx|hx
  ·exact .inr (.inl hx)
  ·exact(List.mem_cons.1 hx).imp (fun x=>x) .inr
 rcases hx' with rfl|hx
 ·exact⟨kind,pos,n,m,name,_,[],rfl,hn,hp,by simp,World.ownsRow_nil _ _ _ _,fun b hb=>by simp[Value.ownBlock] at hb,fun x hx=>by simp at hx,hG⟩
 ·exact isNode.up _ _ (ha x hx)
theorem Mid.rebase (q:Mid w rb tb cap t i k g W j kj aj L T kv vs):Mid w rb tb cap t j kj False W j kj aj L T kv vs:=⟨q.st,Nat.le_refl _,fun e=>e,fun e=>absurd e (fun x=>x),q.blk,q.nd,q.row,q.rown,q.all⟩
theorem Mid.unbase {i':Nat} {k':Int} {g':Prop} (q:Mid w rb tb cap t i k g W j kj aj L T kv vs) (h1:i'≤i) (h2:k=0→k'=0) (h3:g'→k=0→i'<i):Mid w rb tb cap t i' k' g' W j kj aj L T kv vs:=
 ⟨q.st,Nat.le_trans h1 q.le,fun e=>h2 (q.ok e),fun x e=>Nat.lt_of_lt_of_le (h3 x (q.ok e)) q.le,q.blk,q.nd,q.row,q.rown,q.all⟩
theorem Mid.pop {p:Nat × Array Value} (q:Mid w rb tb cap t i k g W j kj aj (p::L) T kv vs):Mid w rb tb cap t i k g W j kj aj L T kv vs:=by
 obtain⟨h,ha⟩:=q.all
 have hnd:=q.nd
 rw[List.map_cons,List.nodup_cons] at hnd
 refine⟨q.st,q.le,q.ok,q.go,fun n x e=>q.blk (n+1) x (by simpa using e),hnd.2,q.row,fun b hb e=>q.rown b hb (by rw[List.map_cons];exact List.mem_cons_of_mem _ e),h,fun x hx=>isNode.weaken (fun b hb=>⟨hb.1,fun e=>hb.2.1 (by rw[List.map_cons];exact List.mem_cons_of_mem _ e),hb.2.2⟩) (fun x=>x) _ _ (ha x hx)⟩
theorem Mid.kids (q:Mid w rb tb cap t i k g W j kj aj L T kv vs):Kids w.heap.size False W kv vs:=by
 obtain⟨h,ha⟩:=q.all
 exact⟨q.row,h,fun x hx=>isNode.weaken (fun b hb=>⟨hb.1,hb.2.2⟩) (fun x=>x) _ _ (ha x (.inl hx))⟩
theorem Mid.toT (q:Mid w rb tb cap t i k g W j kj aj L T kv vs):Mid w rb tb cap t i k g W j kj aj L (vs++T) (.slice none 0 0) []:=by
 obtain⟨h,ha⟩:=q.all
 refine⟨q.st,q.le,q.ok,q.go,q.blk,q.nd,World.ownsRow_nil _ _ _ _,fun b e=>by simp[Value.ownBlock] at e,h,fun x hx=>isNode.weaken (fun b hb=>⟨hb.1,hb.2.1,by simp[Value.ownBlock]⟩) (fun x=>x) _ _ (ha x ?_)⟩
 rcases hx with hx|hx
 ·simp at hx
 ·exact List.mem_append.1 hx
theorem Mid.first {ao:Option Addr} {cp:Nat} (q:Mid w rb tb cap t i k g W j kj aj L T (.slice ao vs.length cp) vs) (h1:vs.length=1):∃gb,ao=some ⟨gb,0,none⟩∧gb<W.heap.size∧gb≠rb∧gb∉L.map adr∧∃kind pos n m name ko kl kc,vs=[(nodeC kind pos n m name (.slice ko kl kc)).toList]∧∀o,o<11→W.cell? ⟨gb,o,none⟩=(nodeC kind pos n m name (.slice ko kl kc))[o]? :=by
 obtain⟨v,rfl⟩:=List.length_eq_one_iff.1 h1
 have hK:Kids w.heap.size False W (.slice ao 1 cp) [v]:=q.kids
 obtain⟨gb,rfl,hgb,hgl,kind,pos,n,m,name,ko,kl,kc,rfl,hcell,_⟩:=hK.first
 have hlb:=q.st.lb
 exact⟨gb,rfl,hgl,by omega,q.rown gb rfl,kind,pos,n,m,name,ko,kl,kc,rfl,hcell⟩
theorem Mid.notin {b:Nat} (q:Mid w rb tb cap t i k g W j kj aj L T kv vs) (hb:b∉L.map adr) (n:Nat) {b':Nat} {c:Array Value} (hn:L[n]? =some (b',c)):b≠b'∧b'≠b:=by
 have _:=q.nd
 have h1:b≠b':=fun e=>hb (List.mem_map.2 ⟨_,List.mem_of_getElem? hn,e▸rfl⟩)
 exact⟨h1,fun e=>h1 e.symm⟩
end
end Go.Proofs.YtdplogkmkgekdaaGreatDoor.Pj
