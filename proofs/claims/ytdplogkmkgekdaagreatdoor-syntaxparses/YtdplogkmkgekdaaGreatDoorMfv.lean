/- Steps of a walk, short; what the grammar's functions answer. -/
import Derived.Test.YtdplogkmkgekdaaGreatDoorZParams
import Derived.Test.YtdplogkmkgekdaaGreatDoorGmc
set_option linter.all false
set_option maxRecDepth 100000
set_option maxHeartbeats 4000000
namespace Go.Proofs.YtdplogkmkgekdaaGreatDoor
open Go.RowKit
variable {wt:Nat}
def intOf:Value→Int
 |.int _ x=>x
 |_=>0
def strOf:Value→ByteArray
 |.string s=>s
 |_=>⟨#[]⟩
def flat:Nat→World→List Value→List Nr
 |0,_,_=>[]
 |f+1,w,cs=>nd (intOf (cs.getD 0 undef)) (intOf (cs.getD 1 undef)) (intOf (cs.getD 2 undef)) (intOf (cs.getD 3 undef)) (strOf (cs.getD 4 undef)) ((kidsAt w (cs.getD 5 undef)).map (flat f w))
theorem flat_eq {S:Nat→Prop} {g:Prop} {h f base:Nat} {w:World} {kind pos n m:Int} {name:ByteArray} {kv:Value} {vs:List (List Value)} (h4:w.ownsRow base 28 11 kv vs.length vs.flatten) (h6:∀x∈vs,isNode S g h w x):flat (f+1) w (nodeC kind pos n m name kv).toList=nd kind pos n m name (vs.map (flat f w)):=by
 have e:=kidsAt_owns h4 (fun x hx=>(isNode.ones _ _ (h6 x hx)).1)
 show nd kind pos n m name ((kidsAt w kv).map (flat f w))=_
 rw[e]
theorem flat_frame {S:Nat→Prop} {g:Prop} {w w':World} (hs:Same S w w'):(h:Nat)→(cs:List Value)→isNode S g h w cs→∀f,flat f w' cs=flat f w cs
 |0,_,hn,_=>absurd hn (fun x=>x)
 |_+1,_,_,0=>rfl
 |h+1,_,⟨kind,pos,n,m,name,kv,vs,h1,h2,h3,h3',h4,h5,h6,h7⟩,f+1=>by
  subst h1
  rw[flat_eq h4 h6,flat_eq (ownsRow_same h4 (fun b hb hl=>hs b (h5 b hb) hl)) (fun x hx=>isNode.frame hs h x (h6 x hx))]
  have:vs.map (flat f w')=vs.map (flat f w):=List.map_congr_left (fun x hx=>flat_frame hs h x (h6 x hx) f)
  rw[this]
def Fl (w:World) (vs:List (List Value)) (F:List (List Nr)):Prop:=∃h,∀f,h≤f→vs.map (flat f w)=F
theorem Fl.nil {w:World}:Fl w [] []:=⟨0,fun _ _=>rfl⟩
theorem Fl.cons {w:World} {c:List Value} {vs:List (List Value)} {x:List Nr} {F:List (List Nr)} (h1:Fl w [c] [x]) (h2:Fl w vs F):Fl w (c::vs) (x::F):=by
 obtain⟨a,ha⟩:=h1
 obtain⟨b,hb⟩:=h2
 refine⟨max a b,fun f hf=>?_⟩
 have e1:=ha f (Nat.le_trans (Nat.le_max_left _ _) hf)
 have e2:=hb f (Nat.le_trans (Nat.le_max_right _ _) hf)
 simp only[List.map_cons,List.map_nil,List.cons.injEq,and_true] at e1
 rw[List.map_cons,e1,e2]
theorem Fl.app {w:World} {us vs:List (List Value)} {E F:List (List Nr)} (h1:Fl w us E) (h2:Fl w vs F):Fl w (us++vs) (E++F):=by
 obtain⟨a,ha⟩:=h1
 obtain⟨b,hb⟩:=h2
 refine⟨max a b,fun f hf=>?_⟩
 rw[List.map_append,ha f (Nat.le_trans (Nat.le_max_left _ _) hf),hb f (Nat.le_trans (Nat.le_max_right _ _) hf)]
theorem Fl.tail {w:World} {c:List Value} {vs:List (List Value)} {x:List Nr} {F:List (List Nr)} (h:Fl w (c::vs) (x::F)):Fl w vs F:=by
 obtain⟨a,ha⟩:=h
 refine⟨a,fun f hf=>?_⟩
 have:=ha f hf
 simp only[List.map_cons,List.cons.injEq] at this
 exact this.2
theorem Fl.head {w:World} {c:List Value} {vs:List (List Value)} {x:List Nr} {F:List (List Nr)} (h:Fl w (c::vs) (x::F)):Fl w [c] [x]:=by
 obtain⟨a,ha⟩:=h
 refine⟨a,fun f hf=>?_⟩
 have:=ha f hf
 simp only[List.map_cons,List.cons.injEq] at this
 simp[this.1]
theorem Fl.len {w:World} {vs:List (List Value)} {F:List (List Nr)} (h:Fl w vs F):F.length=vs.length:=by
 obtain⟨a,ha⟩:=h
 rw[←ha a (Nat.le_refl _)]
 simp
theorem Fl.split {w:World} {us vs:List (List Value)} {E F:List (List Nr)} (h:Fl w (us++vs) (E++F)) (hl:E.length=us.length):Fl w us E∧Fl w vs F:=by
 obtain⟨a,ha⟩:=h
 have key:∀f,a≤f→us.map (flat f w)=E∧vs.map (flat f w)=F:=fun f hf=>by
  have:=ha f hf
  rw[List.map_append] at this
  exact List.append_inj this (by simp[hl])
 exact⟨⟨a,fun f hf=>(key f hf).1⟩,a,fun f hf=>(key f hf).2⟩
theorem Fl.cong {w w':World} {vs:List (List Value)} {F:List (List Nr)} (h:Fl w vs F) (e:∀f,vs.map (flat f w')=vs.map (flat f w)):Fl w' vs F:=by
 obtain⟨a,ha⟩:=h
 exact⟨a,fun f hf=>(e f).trans (ha f hf)⟩
theorem Fl.node {S:Nat→Prop} {g:Prop} {h base:Nat} {w:World} {kind pos n m:Int} {name:ByteArray} {kv:Value} {vs:List (List Value)} (h4:w.ownsRow base 28 11 kv vs.length vs.flatten) (h6:∀x∈vs,isNode S g h w x) {F:List (List Nr)} (hF:Fl w vs F):Fl w [(nodeC kind pos n m name kv).toList] [nd kind pos n m name F]:=by
 obtain⟨a,ha⟩:=hF
 refine⟨a+1,fun f hf=>?_⟩
 obtain⟨f,rfl⟩:∃m,f=m+1:=⟨f - 1,by omega⟩
 rw[List.map_cons,List.map_nil,flat_eq h4 h6,ha f (by omega)]
structure Mf (wt:Nat) (w:World) (rb tb cap:Nat) (t:Tk) (i:Nat) (k:Int) (g:Prop) (s:Int) (W:World) (j:Nat) (kj aj:Int) (L:List (Nat × Array Value)) (T:List (List Value)) (kv:Value) (vs:List (List Value)) (X:List (List Nr)) (V:List (List Nr)):Prop where
 z:Mz wt w rb tb cap t i k g s W j kj aj L T kv vs
 fT:Fl W T X
 fv:Fl W vs V
def NodeF (wt:Nat) (w:World) (rb tb cap:Nat) (t:Tk) (i:Nat) (k a:Int) (must:Prop) (d:Int) (C:Int→Prop) (m:Nat→GP (List Nr)) (e:Ending) (w':World):Prop:=
 ∃(kind pos n m':Int) (name:ByteArray) (ko:Option Addr) (kl kc:Nat) (i':Nat) (k' a':Int),e=.returned (.agg (nodeC kind pos n m' name (.slice ko kl kc)))∧Nx w rb tb cap t i k must w' i' k' a'∧NodeIn w.heap.size (k'=0) w' (nodeC kind pos n m' name (.slice ko kl kc)).toList∧(k'=0→C (labOf (nodeC kind pos n m' name (.slice ko kl kc)).toList))∧(k'=0→∀f,(nsy wt f w' (nodeC kind pos n m' name (.slice ko kl kc)).toList:Int)+d≤16*((i':Int) - (i:Int)))∧∃x,Fl w' [(nodeC kind pos n m' name (.slice ko kl kc)).toList] [x]∧Ev m ⟨i,k,a⟩ (x,⟨i',k',a'⟩)
def ListF (wt:Nat) (w:World) (rb tb cap:Nat) (t:Tk) (i:Nat) (k a:Int) (must:Prop) (d:Int) (C:List Int→Prop) (m:Nat→GP (List (List Nr))) (e:Ending) (w':World):Prop:=
 ∃(ao:Option Addr) (cp:Nat) (vs:List (List Value)) (i':Nat) (k' a':Int),e=.returned (.slice ao vs.length cp)∧Nx w rb tb cap t i k must w' i' k' a'∧Kids w.heap.size (k'=0) w' (.slice ao vs.length cp) vs∧vs.length≤6002∧(k'=0→C (vs.map labOf))∧(k'=0→∀f,tot wt f w' vs+d≤16*((i':Int) - (i:Int)))∧∃F,Fl w' vs F∧Ev m ⟨i,k,a⟩ (F,⟨i',k',a'⟩)
section
variable {w W w':World} {rb tb cap i j:Nat} {t:Tk} {k kj aj:Int} {g:Prop} {s:Int} {L:List (Nat × Array Value)} {T:List (List Value)} {kv:Value} {vs:List (List Value)} {X V:List (List Nr)}
theorem Mid.flats (q:Mid w rb tb cap t i k g W j kj aj L T kv vs) (hs:Same (Out w (L.map adr) kv) W w') (f:Nat):vs.map (flat f w')=vs.map (flat f W)∧T.map (flat f w')=T.map (flat f W):=by
 obtain⟨h,ha⟩:=q.all
 exact⟨List.map_congr_left (fun x hx=>flat_frame hs _ _ (ha x (.inl hx)) f),List.map_congr_left (fun x hx=>flat_frame hs _ _ (ha x (.inr hx)) f)⟩
theorem Mf.same (q:Mf wt w rb tb cap t i k g s W j kj aj L T kv vs X V) (hs:Same (Out w (L.map adr) kv) W w'):Fl w' T X∧Fl w' vs V:=
 ⟨q.fT.cong (fun f=>(q.z.mid.flats hs f).2),q.fv.cong (fun f=>(q.z.mid.flats hs f).1)⟩
theorem Mf.same_kp (q:Mf wt w rb tb cap t i k g s W j kj aj L T kv vs X V) (h2:Kp W.heap.size rb W w'):Fl w' T X∧Fl w' vs V:=
 q.same (Same.kp h2 (fun e=>by have:=e.1;have:=q.z.mid.st.lb;omega))
theorem Mf.start {a:Int} (h:Rd w rb tb cap t i k a):Mf wt w rb tb cap t i k False 0 w i k a [] [] (.slice none 0 0) [] [] []:=⟨Mz.start h,Fl.nil,Fl.nil⟩
theorem Mf.less (q:Mf wt w rb tb cap t i k g s W j kj aj L T kv vs X V) {s':Int} (h:s≤s'):Mf wt w rb tb cap t i k g s' W j kj aj L T kv vs X V:=⟨q.z.less h,q.fT,q.fv⟩
theorem Mf.rk (q:Mf wt w rb tb cap t i k g s W j kj aj L T kv vs X V) {i':Nat} {k' a':Int} (h1:Rd w' rb tb cap t i' k' a') (h2:Kp W.heap.size rb W w') (hle:j≤i') (hok:k'=0→kj=0):Mf wt w rb tb cap t i k g s w' i' k' a' L T kv vs X V:=
 ⟨q.z.rk h1 h2 hle hok,(q.same_kp h2).1,(q.same_kp h2).2⟩
theorem Mf.nx (q:Mf wt w rb tb cap t i k g s W j kj aj L T kv vs X V) {must:Prop} {i':Nat} {k' a':Int} (hx:Nx W rb tb cap t j kj must w' i' k' a'):Mf wt w rb tb cap t i k g s w' i' k' a' L T kv vs X V:=q.rk hx.rd hx.kp hx.le hx.ok
theorem Mf.up (q:Mf wt w rb tb cap t i k g s W j kj aj L T kv vs X V) {g':Prop} (hg:g'→kj=0→i<j):Mf wt w rb tb cap t i k g' s W j kj aj L T kv vs X V:=⟨q.z.up hg,q.fT,q.fv⟩
theorem Mf.nxm (q:Mf wt w rb tb cap t i k g s W j kj aj L T kv vs X V) {i':Nat} {k' a':Int} (hx:Nx W rb tb cap t j kj True w' i' k' a'):Mf wt w rb tb cap t i k True (s - 16) w' i' k' a' L T kv vs X V:=⟨q.z.nxm hx,(q.same_kp hx.kp).1,(q.same_kp hx.kp).2⟩
theorem Mf.below (q:Mf wt w rb tb cap t i k g s W j kj aj L T kv vs X V) (hb:Below W.heap.size W w'):Mf wt w rb tb cap t i k g s w' j kj aj L T kv vs X V:=q.nx (Nx.below q.z.mid.st.rd hb)
theorem Mf.drew (q:Mf wt w rb tb cap t i k g s W j kj aj L T kv vs X V):Mf wt w rb tb cap t i k g s W.drew j kj aj L T kv vs X V:=q.below (Below.refl _ _).drew
theorem Mf.alloc (q:Mf wt w rb tb cap t i k g s W j kj aj L T kv vs X V) (o:Obj):Mf wt w rb tb cap t i k g s (W.alloc o) j kj aj L T kv vs X V:=q.below ((Below.refl _ _).alloc (Nat.le_refl _) o)
theorem Mf.newAt (q:Mf wt w rb tb cap t i k g s W j kj aj L T kv vs X V) {ad:Nat} (had:ad=W.heap.size) (c:Array Value):Mf wt w rb tb cap t i k g s (W.alloc (.cells c 28)) j kj aj ((ad,c)::L) T kv vs X V:=⟨q.z.newAt had c,(q.alloc _).fT,(q.alloc _).fv⟩
theorem Mf.put (q:Mf wt w rb tb cap t i k g s W j kj aj L T kv vs X V) (n:Nat) {b:Nat} {c:Array Value} (hn:L[n]? =some (b,c)) (o:Nat) (u:Value):Mf wt w rb tb cap t i k g s (W.setCell ⟨b,o,none⟩ u) j kj aj (L.set n (b,c.setIfInBounds o u)) T kv vs X V:=by
 have h:=q.same (w':=W.setCell ⟨b,o,none⟩ u) (Same.setCell _ ⟨b,o,none⟩ _ (fun x=>x.2.1 (List.mem_map.2 ⟨_,List.mem_of_getElem? hn,rfl⟩)))
 exact⟨q.z.put n hn o u,h.1,h.2⟩
theorem Mf.put11 (q:Mf wt w rb tb cap t i k g s W j kj aj L T kv vs X V) (n:Nat) {b:Nat} {d0 d1 d2 d3 d4 d5 d6 d7 d8 d9 d10:Value} (hn:L[n]? =some (b,#[d0,d1,d2,d3,d4,d5,d6,d7,d8,d9,d10])) (c0 c1 c2 c3 c4 c5 c6 c7 c8 c9 c10:Value):Mf wt w rb tb cap t i k g s (set11 W b c0 c1 c2 c3 c4 c5 c6 c7 c8 c9 c10) j kj aj (L.set n (b,#[c0,c1,c2,c3,c4,c5,c6,c7,c8,c9,c10])) T kv vs X V:=by
 have h:=q.same (w':=set11 W b c0 c1 c2 c3 c4 c5 c6 c7 c8 c9 c10) (Same.set11 (fun x=>x.2.1 (List.mem_map.2 ⟨_,List.mem_of_getElem? hn,rfl⟩)) _ _ _ _ _ _ _ _ _ _ _)
 exact⟨q.z.put11 n hn c0 c1 c2 c3 c4 c5 c6 c7 c8 c9 c10,h.1,h.2⟩
theorem Mf.goI (q:Mf wt w rb tb cap t i k g s W j kj aj L T kv vs X V) {j':Nat} (hj:j'<t.len) (hle:j<j'):Mf wt w rb tb cap t i k True (s - 16) (W.setCell ⟨rb,1,none⟩ (.int .i64 j')) j' kj aj L T kv vs X V:=by
 have h:=q.same_kp (w':=W.setCell ⟨rb,1,none⟩ (.int .i64 j')) (Kp.setCell (p:=⟨rb,1,none⟩) (Kp.refl _ _ _) (.inr rfl) _)
 exact⟨q.z.goI hj hle,h.1,h.2⟩
theorem Mf.node (q:Mf wt w rb tb cap t i k g s W j kj aj L T kv vs X V) {must:Prop} {i':Nat} {k' a':Int} (hx:Nx W rb tb cap t j kj must w' i' k' a') {c:List Value} (hn:NodeIn W.heap.size (k'=0) w' c) {d:Int} (hz:k'=0→∀f,(nsy wt f w' c:Int)+d≤16*((i':Int) - (j:Int))) {x:List Nr} (hf:Fl w' [c] [x]):Mf wt w rb tb cap t i k g (s - d) w' i' k' a' L (c::T) kv vs (x::X) V:=
 ⟨q.z.node hx hn hz,hf.cons (q.same_kp hx.kp).1,(q.same_kp hx.kp).2⟩
theorem Mf.nodem (q:Mf wt w rb tb cap t i k g s W j kj aj L T kv vs X V) {i':Nat} {k' a':Int} (hx:Nx W rb tb cap t j kj True w' i' k' a') {c:List Value} (hn:NodeIn W.heap.size (k'=0) w' c) {d:Int} (hz:k'=0→∀f,(nsy wt f w' c:Int)+d≤16*((i':Int) - (j:Int))) {x:List Nr} (hf:Fl w' [c] [x]):Mf wt w rb tb cap t i k True (s - d) w' i' k' a' L (c::T) kv vs (x::X) V:=
 ⟨q.z.nodem hx hn hz,hf.cons (q.same_kp hx.kp).1,(q.same_kp hx.kp).2⟩
theorem Mf.holds (q:Mf wt w rb tb cap t i k g s W j kj aj L T kv vs X V) {must:Prop} {i':Nat} {k' a':Int} (hx:Nx W rb tb cap t j kj must w' i' k' a') {kv':Value} {vs':List (List Value)} (hK:Kids W.heap.size (k'=0) w' kv' vs') {d:Int} (hz:k'=0→∀f,tot wt f w' vs'+d≤16*((i':Int) - (j:Int))) {F:List (List Nr)} (hf:Fl w' vs' F):Mf wt w rb tb cap t i k g (s - d) w' i' k' a' L (vs'++T) kv vs (F++X) V:=
 ⟨q.z.holds hx hK hz,hf.app (q.same_kp hx.kp).1,(q.same_kp hx.kp).2⟩
theorem Mf.list (q:Mf wt w rb tb cap t i k g s W j kj aj L T (.slice none 0 0) [] X V) {must:Prop} {i':Nat} {k' a':Int} (hx:Nx W rb tb cap t j kj must w' i' k' a') {kv':Value} {vs':List (List Value)} (hK:Kids W.heap.size (k'=0) w' kv' vs') {d:Int} (hz:k'=0→∀f,tot wt f w' vs'+d≤16*((i':Int) - (j:Int))) {F:List (List Nr)} (hf:Fl w' vs' F):Mf wt w rb tb cap t i k g (s - d) w' i' k' a' L T kv' vs' X F:=
 ⟨q.z.list hx hK hz,(q.same_kp hx.kp).1,hf⟩
theorem Mf.swap {a b:List Value} {x y:List Nr} (q:Mf wt w rb tb cap t i k g s W j kj aj L (a::b::T) kv vs (x::y::X) V):Mf wt w rb tb cap t i k g s W j kj aj L (b::a::T) kv vs (y::x::X) V:=
 ⟨q.z.swap,q.fT.tail.head.cons (q.fT.head.cons q.fT.tail.tail),q.fv⟩
theorem Mf.pop {p:Nat × Array Value} (q:Mf wt w rb tb cap t i k g s W j kj aj (p::L) T kv vs X V):Mf wt w rb tb cap t i k g s W j kj aj L T kv vs X V:=⟨q.z.pop,q.fT,q.fv⟩
theorem Mf.toT (q:Mf wt w rb tb cap t i k g s W j kj aj L T kv vs X V):Mf wt w rb tb cap t i k g s W j kj aj L (vs++T) (.slice none 0 0) [] (V++X) []:=⟨q.z.toT,q.fv.app q.fT,Fl.nil⟩
theorem Mf.made {us:List (List Value)} {U:List (List Nr)} (q:Mf wt w rb tb cap t i k g s W j kj aj L (us++T) (.slice none 0 0) [] (U++X) V) (cs:Array Value) (hcs:cs.toList=us.flatten) (hl:us.length≤20000) (h11:∀x∈us,x.length=11) {ad n:Nat} (had:ad=W.heap.size) (hn:n=us.length) (hU:U.length=us.length):
 Mf wt w rb tb cap t i k g s (W.alloc (.cells cs 28)) j kj aj L T (.slice (some ⟨ad,0,none⟩) n n) us X U:=by
 have h:=(q.alloc (.cells cs 28)).fT.split hU
 exact⟨q.z.made cs hcs hl h11 had hn,h.2,h.1⟩
theorem Mf.fold (q:Mf wt w rb tb cap t i k g s W j kj aj L T kv vs X V) (hl:vs.length≤20000) {kind pos n m:Int} {name:ByteArray} (hn:name.size≤20000) (hp:0≤pos∧pos≤7000) (hG:kj=0→Gr kind n m name (vs.map labOf)):Mf wt w rb tb cap t i k g (s+(wt:Int)) W j kj aj L ((nodeC kind pos n m name kv).toList::T) (.slice none 0 0) [] (nd kind pos n m name V::X) []:=by
 obtain⟨h,ha⟩:=q.z.mid.all
 exact⟨q.z.fold hl hn hp hG,(Fl.node q.z.mid.row (fun x hx=>ha x (.inl hx)) q.fv).cons q.fT,Fl.nil⟩
theorem Mf.leaf (q:Mf wt w rb tb cap t i k g s W j kj aj L T kv vs X V) {kind pos n m:Int} {name:ByteArray} (hn:name.size≤20000) (hp:0≤pos∧pos≤7000) (hG:kj=0→Gr kind n m name []):Mf wt w rb tb cap t i k g (s+(wt:Int)) W j kj aj L ((nodeC kind pos n m name (.slice none 0 0)).toList::T) kv vs (nd kind pos n m name []::X) V:=
 ⟨q.z.leaf hn hp hG,(Fl.node (S:=fun _=>True) (g:=False) (h:=0) (base:=0) (World.ownsRow_nil _ _ _ _) (fun x hx=>by cases hx) Fl.nil).cons q.fT,q.fv⟩
theorem Mf.lit {us:List (List Value)} {U:List (List Nr)} (q:Mf wt w rb tb cap t i k g s W j kj aj L (us++T) kv vs (U++X) V) (cs:Array Value) (hcs:cs.toList=us.flatten) (hl:us.length≤20000) (h11:∀x∈us,x.length=11) {ad c:Nat} (had:ad=W.heap.size) (hc:c=us.length)
 {kind pos n m:Int} {name:ByteArray} (hn:name.size≤20000) (hp:0≤pos∧pos≤7000) (hG:kj=0→Gr kind n m name (us.map labOf)) (hU:U.length=us.length):Mf wt w rb tb cap t i k g (s+(wt:Int)) (W.alloc (.cells cs 28)) j kj aj L ((nodeC kind pos n m name (.slice (some ⟨ad,0,none⟩) c c)).toList::T) kv vs (nd kind pos n m name U::X) V:=by
 have q1:=q.alloc (.cells cs 28)
 have h:=q1.fT.split hU
 refine⟨q.z.lit cs hcs hl h11 had hc hn hp hG,?_,q1.fv⟩
 subst had hc
 obtain⟨hh,ha⟩:=q1.z.mid.all
 have hsz:us.flatten.length=us.length*11:=by
  clear hcs hl q q1 hG h ha hU
  induction us with
  |nil=>rfl
  |cons x r ih=>simp only[List.flatten_cons,List.length_append,List.length_cons];rw[ih (fun y hy=>h11 y (List.mem_cons_of_mem _ hy)),h11 x (List.mem_cons_self ..)];omega
 have hrow:=World.ownsRow_lit (base:=0) (e:=28) (size:=11) W cs us.length (Nat.zero_le _) (by unfold maxLen;omega) (by rw[←Array.length_toList,hcs,hsz])
 rw[hcs] at hrow
 exact(Fl.node hrow (fun x hx=>ha x (.inr (List.mem_append.2 (.inl hx)))) h.1).cons h.2
end
end Go.Proofs.YtdplogkmkgekdaaGreatDoor
namespace Go.Proofs.YtdplogkmkgekdaaGreatDoor
open Go.RowKit
variable {wt:Nat}
section
variable {w W w':World} {rb tb cap i j:Nat} {t:Tk} {k kj aj:Int} {g:Prop} {s:Int} {L:List (Nat × Array Value)} {T:List (List Value)} {kv:Value} {vs:List (List Value)} {a b c d:Nat} {x y z u:Array Value} {Ft Fv:List (List Nr)}
theorem Mf.st (q:Mf wt w rb tb cap t i k g s W j kj aj L T kv vs Ft Fv):St w rb tb cap t W j kj aj:=q.z.st
theorem Mf.le (q:Mf wt w rb tb cap t i k g s W j kj aj L T kv vs Ft Fv):i≤j:=q.z.le
theorem Mf.ok (q:Mf wt w rb tb cap t i k g s W j kj aj L T kv vs Ft Fv):kj=0→k=0:=q.z.ok
theorem Mf.go (q:Mf wt w rb tb cap t i k g s W j kj aj L T kv vs Ft Fv):g→kj=0→i<j:=q.z.go
theorem Mf.at (q:Mf wt w rb tb cap t i k g s W j kj aj L T kv vs Ft Fv) (n:Nat) {b:Nat} {c:Array Value} (hn:L[n]? =some (b,c)):(∀o,W.cell? ⟨b,o,none⟩=c[o]?)∧(∀o,W.frozen? ⟨b,o,none⟩=false)∧b<W.heap.size∧b≠rb:=q.z.at n hn
theorem Mf.ne (q:Mf wt w rb tb cap t i k g s W j kj aj L T kv vs Ft Fv) (n m:Nat) {b b':Nat} {c c':Array Value} (hn:L[n]? =some (b,c)) (hm:L[m]? =some (b',c')) (h:n≠m):b≠b'∧b'≠b:=q.z.ne n m hn hm h
theorem Mf.shape (q:Mf wt w rb tb cap t i k g s W j kj aj L T kv vs Ft Fv):∃ao cp,kv=.slice ao vs.length cp:=q.z.shape
theorem Mf.rebase (q:Mf wt w rb tb cap t i k g s W j kj aj L T kv vs Ft Fv):Mf wt w rb tb cap t j kj False (16*((j:Int) - (i:Int))+s) W j kj aj L T kv vs Ft Fv:=⟨q.z.rebase,q.fT,q.fv⟩
theorem Mf.unbase {i':Nat} {k':Int} {g':Prop} {s':Int} (q:Mf wt w rb tb cap t i k g s W j kj aj L T kv vs Ft Fv) (h1:i'≤i) (h2:k=0→k'=0) (h3:g'→k=0→i'<i) (hs:s≤16*((i:Int) - (i':Int))+s'):Mf wt w rb tb cap t i' k' g' s' W j kj aj L T kv vs Ft Fv:=⟨q.z.unbase h1 h2 h3 hs,q.fT,q.fv⟩
theorem Mf.dead (q:Mf wt w rb tb cap t i k g s W j kj aj L T kv vs Ft Fv) {s':Int} (hk:kj≠0):Mf wt w rb tb cap t i k g s' W j kj aj L T kv vs Ft Fv:=⟨q.z.dead hk,q.fT,q.fv⟩
theorem Mf.fa (q:Mf wt w rb tb cap t i k g s W j kj aj L T kv vs Ft Fv) (n:Nat) {b:Nat} {c:Array Value} (hn:L[n]? =some (b,c)):Fc W rb b c:=q.z.fa n hn
theorem Mf.f1 (q:Mf wt w rb tb cap t i k g s W j kj aj ((a,x)::L) T kv vs Ft Fv):Fc W rb a x:=q.z.f1
theorem Mf.f2 (q:Mf wt w rb tb cap t i k g s W j kj aj ((a,x)::(b,y)::L) T kv vs Ft Fv):Fc W rb a x∧Fc W rb b y∧a≠b∧b≠a:=q.z.f2
theorem Mf.f3 (q:Mf wt w rb tb cap t i k g s W j kj aj ((a,x)::(b,y)::(c,z)::L) T kv vs Ft Fv):Fc W rb a x∧Fc W rb b y∧Fc W rb c z∧(a≠b∧b≠a)∧(a≠c∧c≠a)∧b≠c∧c≠b:=q.z.f3
theorem Mf.f4 (q:Mf wt w rb tb cap t i k g s W j kj aj ((a,x)::(b,y)::(c,z)::(d,u)::L) T kv vs Ft Fv):Fc W rb a x∧Fc W rb b y∧Fc W rb c z∧Fc W rb d u∧(a≠b∧b≠a)∧(a≠c∧c≠a)∧(b≠c∧c≠b)∧(a≠d∧d≠a)∧(b≠d∧d≠b)∧c≠d∧d≠c:=q.z.f4
variable {b0 b1 b2 b3:Nat} {c0 c1 c2 c3:Array Value} {ki po n m:Int} {na:ByteArray} {v:Value}
variable {X1 X2:List Nr}
theorem Mf.p00 (q:Mf wt w rb tb cap t i k g s W j kj aj ((b,nodeC ki po n m na v)::L) T kv vs Ft Fv) (X:Int):Mf wt w rb tb cap t i k g s (W.setCell ⟨b,0,none⟩ (.int .i64 X)) j kj aj ((b,nodeC X po n m na v)::L) T kv vs Ft Fv:=q.put 0 rfl 0 (.int .i64 X)
theorem Mf.p02 (q:Mf wt w rb tb cap t i k g s W j kj aj ((b,nodeC ki po n m na v)::L) T kv vs Ft Fv) (X:Int):Mf wt w rb tb cap t i k g s (W.setCell ⟨b,2,none⟩ (.int .i64 X)) j kj aj ((b,nodeC ki po X m na v)::L) T kv vs Ft Fv:=q.put 0 rfl 2 (.int .i64 X)
theorem Mf.p03 (q:Mf wt w rb tb cap t i k g s W j kj aj ((b,nodeC ki po n m na v)::L) T kv vs Ft Fv) (X:Int):Mf wt w rb tb cap t i k g s (W.setCell ⟨b,3,none⟩ (.int .i64 X)) j kj aj ((b,nodeC ki po n X na v)::L) T kv vs Ft Fv:=q.put 0 rfl 3 (.int .i64 X)
theorem Mf.p04 (q:Mf wt w rb tb cap t i k g s W j kj aj ((b,nodeC ki po n m na v)::L) T kv vs Ft Fv) (X:ByteArray):Mf wt w rb tb cap t i k g s (W.setCell ⟨b,4,none⟩ (.string X)) j kj aj ((b,nodeC ki po n m X v)::L) T kv vs Ft Fv:=q.put 0 rfl 4 (.string X)
theorem Mf.p05 (q:Mf wt w rb tb cap t i k g s W j kj aj ((b,nodeC ki po n m na v)::L) T kv vs Ft Fv) (X:Value):Mf wt w rb tb cap t i k g s (W.setCell ⟨b,5,none⟩ (X)) j kj aj ((b,nodeC ki po n m na X)::L) T kv vs Ft Fv:=q.put 0 rfl 5 (X)
theorem Mf.pA0 (q:Mf wt w rb tb cap t i k g s W j kj aj ((b,nodeC ki po n m na v)::L) T kv vs Ft Fv) (K P N M:Int) (A:ByteArray) (V:Value):Mf wt w rb tb cap t i k g s (set11 W b (.int .i64 K) (.int .i64 P) (.int .i64 N) (.int .i64 M) (.string A) V (.int .i64 0) (.int .i64 0) nl nl nl) j kj aj ((b,nodeC K P N M A V)::L) T kv vs Ft Fv:=q.put11 0 rfl _ _ _ _ _ _ _ _ _ _ _
theorem Mf.p12 (q:Mf wt w rb tb cap t i k g s W j kj aj ((b0,c0)::(b,nodeC ki po n m na v)::L) T kv vs Ft Fv) (X:Int):Mf wt w rb tb cap t i k g s (W.setCell ⟨b,2,none⟩ (.int .i64 X)) j kj aj ((b0,c0)::(b,nodeC ki po X m na v)::L) T kv vs Ft Fv:=q.put 1 rfl 2 (.int .i64 X)
theorem Mf.p14 (q:Mf wt w rb tb cap t i k g s W j kj aj ((b0,c0)::(b,nodeC ki po n m na v)::L) T kv vs Ft Fv) (X:ByteArray):Mf wt w rb tb cap t i k g s (W.setCell ⟨b,4,none⟩ (.string X)) j kj aj ((b0,c0)::(b,nodeC ki po n m X v)::L) T kv vs Ft Fv:=q.put 1 rfl 4 (.string X)
theorem Mf.p15 (q:Mf wt w rb tb cap t i k g s W j kj aj ((b0,c0)::(b,nodeC ki po n m na v)::L) T kv vs Ft Fv) (X:Value):Mf wt w rb tb cap t i k g s (W.setCell ⟨b,5,none⟩ (X)) j kj aj ((b0,c0)::(b,nodeC ki po n m na X)::L) T kv vs Ft Fv:=q.put 1 rfl 5 (X)
theorem Mf.pA1 (q:Mf wt w rb tb cap t i k g s W j kj aj ((b0,c0)::(b,nodeC ki po n m na v)::L) T kv vs Ft Fv) (K P N M:Int) (A:ByteArray) (V:Value):Mf wt w rb tb cap t i k g s (set11 W b (.int .i64 K) (.int .i64 P) (.int .i64 N) (.int .i64 M) (.string A) V (.int .i64 0) (.int .i64 0) nl nl nl) j kj aj ((b0,c0)::(b,nodeC K P N M A V)::L) T kv vs Ft Fv:=q.put11 1 rfl _ _ _ _ _ _ _ _ _ _ _
theorem Mf.p22 (q:Mf wt w rb tb cap t i k g s W j kj aj ((b0,c0)::(b1,c1)::(b,nodeC ki po n m na v)::L) T kv vs Ft Fv) (X:Int):Mf wt w rb tb cap t i k g s (W.setCell ⟨b,2,none⟩ (.int .i64 X)) j kj aj ((b0,c0)::(b1,c1)::(b,nodeC ki po X m na v)::L) T kv vs Ft Fv:=q.put 2 rfl 2 (.int .i64 X)
theorem Mf.p24 (q:Mf wt w rb tb cap t i k g s W j kj aj ((b0,c0)::(b1,c1)::(b,nodeC ki po n m na v)::L) T kv vs Ft Fv) (X:ByteArray):Mf wt w rb tb cap t i k g s (W.setCell ⟨b,4,none⟩ (.string X)) j kj aj ((b0,c0)::(b1,c1)::(b,nodeC ki po n m X v)::L) T kv vs Ft Fv:=q.put 2 rfl 4 (.string X)
theorem Mf.p25 (q:Mf wt w rb tb cap t i k g s W j kj aj ((b0,c0)::(b1,c1)::(b,nodeC ki po n m na v)::L) T kv vs Ft Fv) (X:Value):Mf wt w rb tb cap t i k g s (W.setCell ⟨b,5,none⟩ (X)) j kj aj ((b0,c0)::(b1,c1)::(b,nodeC ki po n m na X)::L) T kv vs Ft Fv:=q.put 2 rfl 5 (X)
theorem Mf.p35 (q:Mf wt w rb tb cap t i k g s W j kj aj ((b0,c0)::(b1,c1)::(b2,c2)::(b,nodeC ki po n m na v)::L) T kv vs Ft Fv) (X:Value):Mf wt w rb tb cap t i k g s (W.setCell ⟨b,5,none⟩ (X)) j kj aj ((b0,c0)::(b1,c1)::(b2,c2)::(b,nodeC ki po n m na X)::L) T kv vs Ft Fv:=q.put 3 rfl 5 (X)
theorem Mf.ne' (q:Mf wt w rb tb cap t i k g s W j kj aj L T kv vs Ft Fv) (ad:Nat) (c:Array Value) (had:ad=W.heap.size:=by simp):Mf wt w rb tb cap t i k g s (W.alloc (.cells c 28)) j kj aj ((ad,c)::L) T kv vs Ft Fv:=q.newAt had c
theorem Mf.m1 (q:Mf wt w rb tb cap t i k g s W j kj aj L ((nodeC ki po n m na v).toList::T) nl [] (X1::Ft) Fv) (ad:Nat) (had:ad=W.heap.size:=by simp):Mf wt w rb tb cap t i k g s (W.alloc (.cells (nodeC ki po n m na v) 28)) j kj aj L T (sl ad 1) [(nodeC ki po n m na v).toList] Ft [X1]:=Mf.made (us:=[(nodeC ki po n m na v).toList]) (U:=[X1]) (T:=T) q _ (by simp) (by simp) (by simp) had rfl rfl
theorem Mf.fo (q:Mf wt w rb tb cap t i k g s W j kj aj L T kv vs Ft Fv) (ki po n m:Int) (na:ByteArray) (hl:vs.length≤20000) (hp:0≤po∧po≤7000) (hn:na.size≤20000:=by decide) (hG:kj=0→Gr ki n m na (vs.map labOf):=by exact fun _=>Gr.free (by unfold frK;decide)):Mf wt w rb tb cap t i k g (s+(wt:Int)) W j kj aj L ((nodeC ki po n m na kv).toList::T) nl [] (nd ki po n m na Fv::Ft) []:=q.fold hl hn hp hG
theorem Mf.fk (q:Mf wt w rb tb cap t i k g s W j kj aj L T kv vs Ft Fv) (ki po:Int) (hl:vs.length≤20000) (hp:0≤po∧po≤7000) (hG:kj=0→Gr ki 0 0 ⟨#[]⟩ (vs.map labOf):=by exact fun _=>Gr.free (by unfold frK;decide)):Mf wt w rb tb cap t i k g (s+(wt:Int)) W j kj aj L ((nk ki po kv).toList::T) nl [] (nd ki po 0 0 ⟨#[]⟩ Fv::Ft) []:=q.fold hl (by decide) hp hG
theorem Mf.lk (q:Mf wt w rb tb cap t i k g s W j kj aj L T kv vs Ft Fv) (ki po n m:Int) (na:ByteArray) (hp:0≤po∧po≤7000) (hn:na.size≤20000:=by decide) (hG:kj=0→Gr ki n m na []:=by exact fun _=>Gr.free (by unfold frK;decide)):Mf wt w rb tb cap t i k g (s+(wt:Int)) W j kj aj L ((nodeC ki po n m na nl).toList::T) kv vs (nd ki po n m na []::Ft) Fv:=q.leaf hn hp hG
variable {f:Nat} {args:Array Value} {R:Value} {Q:Ending→World→Prop}
variable {kx px nx mx ky py ny my:Int} {ax ay:ByteArray} {vx vy:Value}
theorem Mf.l1 (q:Mf wt w rb tb cap t i k g s W j kj aj L ((nodeC kx px nx mx ax vx).toList::T) kv vs (X1::Ft) Fv) (ad:Nat) (ki po n m:Int) (na:ByteArray) (hp:0≤po∧po≤7000) (hn:na.size≤20000:=by decide) (hG:kj=0→Gr ki n m na ([(nodeC kx px nx mx ax vx).toList].map labOf):=by exact fun _=>Gr.free (by unfold frK;decide)) (had:ad=W.heap.size:=by simp):Mf wt w rb tb cap t i k g (s+(wt:Int)) (W.alloc (.cells (nodeC kx px nx mx ax vx) 28)) j kj aj L ((nodeC ki po n m na (sl ad 1)).toList::T) kv vs (nd ki po n m na [X1]::Ft) Fv:=Mf.lit (U:=[X1]) (us:=[(nodeC kx px nx mx ax vx).toList]) (T:=T) q _ (by simp) (by simp) (by simp) had rfl hn hp hG rfl
theorem Mf.l2 (q:Mf wt w rb tb cap t i k g s W j kj aj L ((nodeC kx px nx mx ax vx).toList::(nodeC ky py ny my ay vy).toList::T) kv vs (X1::X2::Ft) Fv) (ad:Nat) (ki po n m:Int) (na:ByteArray) (hp:0≤po∧po≤7000) (hn:na.size≤20000:=by decide) (hG:kj=0→Gr ki n m na ([(nodeC kx px nx mx ax vx).toList,(nodeC ky py ny my ay vy).toList].map labOf):=by exact fun _=>Gr.free (by unfold frK;decide)) (had:ad=W.heap.size:=by simp):Mf wt w rb tb cap t i k g (s+(wt:Int)) (W.alloc (.cells (nodeC2 kx px nx mx ax vx ky py ny my ay vy) 28)) j kj aj L ((nodeC ki po n m na (sl ad 2)).toList::T) kv vs (nd ki po n m na [X1,X2]::Ft) Fv:=Mf.lit (U:=[X1,X2]) (us:=[(nodeC kx px nx mx ax vx).toList,(nodeC ky py ny my ay vy).toList]) (T:=T) q (nodeC2 kx px nx mx ax vx ky py ny my ay vy) (by simp) (by simp) (by simp) had rfl hn hp hG rfl
theorem Mf.m2 (q:Mf wt w rb tb cap t i k g s W j kj aj L ((nodeC kx px nx mx ax vx).toList::(nodeC ky py ny my ay vy).toList::T) nl [] (X1::X2::Ft) Fv) (ad:Nat) (had:ad=W.heap.size:=by simp):Mf wt w rb tb cap t i k g s (W.alloc (.cells (nodeC2 kx px nx mx ax vx ky py ny my ay vy) 28)) j kj aj L T (sl ad 2) [(nodeC kx px nx mx ax vx).toList,(nodeC ky py ny my ay vy).toList] Ft [X1,X2]:=Mf.made (us:=[(nodeC kx px nx mx ax vx).toList,(nodeC ky py ny my ay vy).toList]) (U:=[X1,X2]) (T:=T) q (nodeC2 kx px nx mx ax vx ky py ny my ay vy) (by simp) (by simp) (by simp) had rfl rfl
variable {B:Nat} {P:ByteArray→Prop}
variable {xs:ByteArray}
variable {D:Int} {C:Int→Prop} {E:List Int→Prop} {must:Prop}
variable {ko ro:Option Addr} {kl kc rl rc:Nat} {ops:Array Oper} {rest:List Oper} {p:Oper} {act:Act} {S:Exit→Act→World→Prop} {sv xo:Operand}
variable {Kk:Act→World→Prop} {Ee:Prop}
theorem Mf.lf (q:Mf wt w rb tb cap t i k g s W j kj aj L T kv vs Ft Fv) (h:Rd W rb tb cap t j kj aj→Calls Tryz.prog f args W fun e w'=>e=.returned R∧Below W.heap.size W w') (K:∀w',Mf wt w rb tb cap t i k g s w' j kj aj L T kv vs Ft Fv→Q (.returned R) w'):Calls Tryz.prog f args W Q:=(h q.st.rd).mono fun e w' p=>p.1▸K w' (q.below p.2)
theorem Mf.wn {sx:ByteArray} (q:Mf wt w rb tb cap t i k g s W j kj aj L T kv vs Ft Fv) (h:Rd W rb tb cap t j kj aj→Calls Tryz.prog f args W fun e w'=>e=.returned R∧∃i' k' a',Nx W rb tb cap t j kj True w' i' k' a'∧Ev (fun _=>gWant t sx) ⟨j,kj,aj⟩ ((),⟨i',k',a'⟩)) (K:∀w' i' k' a',Hid (k'=0→kj=0)→Ev (fun _=>gWant t sx) ⟨j,kj,aj⟩ ((),⟨i',k',a'⟩)→Mf wt w rb tb cap t i k True (s - 16) w' i' k' a' L T kv vs Ft Fv→Q (.returned R) w'):Calls Tryz.prog f args W Q:=(h q.st.rd).mono fun e w' p=>by
 obtain⟨rfl,i',k',a',hx,hm⟩:=p
 exact K w' i' k' a' hx.ok hm (q.nxm hx)
theorem Mf.nm {ms:Nat→GP ByteArray} (q:Mf wt w rb tb cap t i k g s W j kj aj L T kv vs Ft Fv) (h:Rd W rb tb cap t j kj aj→Calls Tryz.prog f args W fun e w'=>∃x,e=.returned (.string x)∧x.size≤B∧∃i' k' a',Nx W rb tb cap t j kj True w' i' k' a'∧(k'=0→P x)∧Ev ms ⟨j,kj,aj⟩ (x,⟨i',k',a'⟩)) (K:∀w' x i' k' a',x.size≤B→(k'=0→P x)→Hid (k'=0→kj=0)→Ev ms ⟨j,kj,aj⟩ (x,⟨i',k',a'⟩)→Mf wt w rb tb cap t i k True (s - 16) w' i' k' a' L T kv vs Ft Fv→Q (.returned (.string x)) w'):Calls Tryz.prog f args W Q:=(h q.st.rd).mono fun e w' p=>by
 obtain⟨x,rfl,hs,i',k',a',hx,ho,hm⟩:=p
 exact K w' x i' k' a' hs ho hx.ok hm (q.nxm hx)
theorem Mf.et (q:Mf wt w rb tb cap t i k g s W j kj aj L T kv vs Ft Fv) (h:Rd W rb tb cap t j kj aj→Calls Tryz.prog f args W fun e w'=>∃b i',e=.returned (.bool b)∧Eaten t xs j kj b i'∧Rd w' rb tb cap t i' kj aj∧Kp W.heap.size rb W w') (K:∀w' b i',Eaten t xs j kj b i'→Ev (fun _=>gEat t xs) ⟨j,kj,aj⟩ (b,⟨i',kj,aj⟩)→Mf wt w rb tb cap t i k g s w' i' kj aj L T kv vs Ft Fv→Q (.returned (.bool b)) w'):Calls Tryz.prog f args W Q:=(h q.st.rd).mono fun e w' p=>by
 obtain⟨b,i',rfl,hE,h1,h2⟩:=p
 exact K w' b i' hE (ev_eat hE) (q.rk h1 h2 hE.le (fun e=>e))
theorem Mf.ey (q:Mf wt w rb tb cap t i k g s W j kj aj L T kv vs Ft Fv) (h:Rd W rb tb cap t j kj aj→Calls Tryz.prog f args W fun e w'=>e=.returned R∧Nx W rb tb cap t j kj True w' (j+1) kj aj) (K:∀w',Mf wt w rb tb cap t i k True (s - 16) w' (j+1) kj aj L T kv vs Ft Fv→Q (.returned R) w'):Calls Tryz.prog f args W Q:=(h q.st.rd).mono fun e w' p=>p.1▸K w' (q.nxm p.2)
theorem Mf.nd {mm:Nat→GP (List Nr)} (q:Mf wt w rb tb cap t i k g s W j kj aj L T kv vs Ft Fv) (h:Rd W rb tb cap t j kj aj→Calls Tryz.prog f args W (NodeF wt W rb tb cap t j kj aj True D C mm)) (K:∀w' (x:Nf) i' k' a' (y:List Nr),(k'=0→C (labOf x.t))→Hid (k'=0→kj=0)→Ev mm ⟨j,kj,aj⟩ (y,⟨i',k',a'⟩)→Mf wt w rb tb cap t i k True (s - D) w' i' k' a' L (x.t::T) kv vs (y::Ft) Fv→Q (.returned (.agg x.a)) w'):Calls Tryz.prog f args W Q:=(h q.st.rd).mono fun e w' p=>by
 obtain⟨x1,x2,x3,x4,x5,x6,x7,x8,i',k',a',rfl,hx,hn,hc,hz,y,hy,hm⟩:=p
 exact K w' ⟨x1,x2,x3,x4,x5,x6,x7,x8⟩ i' k' a' y hc hx.ok hm (q.nodem hx hn hz hy)
theorem Mf.nn {mm:Nat→GP (List Nr)} (q:Mf wt w rb tb cap t i k g s W j kj aj L T kv vs Ft Fv) (h:Rd W rb tb cap t j kj aj→Calls Tryz.prog f args W (NodeF wt W rb tb cap t j kj aj must D C mm)) (K:∀w' (x:Nf) i' k' a' (y:List Nr),(k'=0→C (labOf x.t))→Hid (k'=0→kj=0)→Ev mm ⟨j,kj,aj⟩ (y,⟨i',k',a'⟩)→Mf wt w rb tb cap t i k g (s - D) w' i' k' a' L (x.t::T) kv vs (y::Ft) Fv→Q (.returned (.agg x.a)) w'):Calls Tryz.prog f args W Q:=(h q.st.rd).mono fun e w' p=>by
 obtain⟨x1,x2,x3,x4,x5,x6,x7,x8,i',k',a',rfl,hx,hn,hc,hz,y,hy,hm⟩:=p
 exact K w' ⟨x1,x2,x3,x4,x5,x6,x7,x8⟩ i' k' a' y hc hx.ok hm (q.node hx hn hz hy)
theorem Mf.li {mm:Nat→GP (List (List Nr))} (q:Mf wt w rb tb cap t i k g s W j kj aj L T nl [] Ft Fv) (h:Rd W rb tb cap t j kj aj→Calls Tryz.prog f args W (ListF wt W rb tb cap t j kj aj True D E mm)) (K:∀w' ao cp vs' i' k' a' F,vs'.length≤6002→(k'=0→E (vs'.map labOf))→Hid (k'=0→kj=0)→Ev mm ⟨j,kj,aj⟩ (F,⟨i',k',a'⟩)→Mf wt w rb tb cap t i k True (s - D) w' i' k' a' L T (.slice ao vs'.length cp) vs' Ft F→Q (.returned (.slice ao vs'.length cp)) w'):Calls Tryz.prog f args W Q:=(h q.st.rd).mono fun e w' p=>by
 obtain⟨ao,cp,vs',i',k',a',rfl,hx,hK,hl,hP,hz,F,hF,hm⟩:=p
 exact K w' ao cp vs' i' k' a' F hl hP hx.ok hm ((q.list hx hK hz hF).up (fun _ e=>Nat.lt_of_le_of_lt q.le (hx.go trivial e)))
theorem Mf.ln {mm:Nat→GP (List (List Nr))} (q:Mf wt w rb tb cap t i k g s W j kj aj L T nl [] Ft Fv) (h:Rd W rb tb cap t j kj aj→Calls Tryz.prog f args W (ListF wt W rb tb cap t j kj aj must D E mm)) (K:∀w' ao cp vs' i' k' a' F,vs'.length≤6002→(k'=0→E (vs'.map labOf))→Hid (k'=0→kj=0)→Ev mm ⟨j,kj,aj⟩ (F,⟨i',k',a'⟩)→Mf wt w rb tb cap t i k g (s - D) w' i' k' a' L T (.slice ao vs'.length cp) vs' Ft F→Q (.returned (.slice ao vs'.length cp)) w'):Calls Tryz.prog f args W Q:=(h q.st.rd).mono fun e w' p=>by
 obtain⟨ao,cp,vs',i',k',a',rfl,hx,hK,hl,hP,hz,F,hF,hm⟩:=p
 exact K w' ao cp vs' i' k' a' F hl hP hx.ok hm (q.list hx hK hz hF)
end
end Go.Proofs.YtdplogkmkgekdaaGreatDoor
