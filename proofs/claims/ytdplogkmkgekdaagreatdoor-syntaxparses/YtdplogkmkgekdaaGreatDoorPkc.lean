/- The middle of a call of the project's parser, with the nodes of its trees; its steps. -/
import Derived.Test.YtdplogkmkgekdaaGreatDoorPkb
import Derived.Test.YtdplogkmkgekdaaGreatDoorMfv
import Derived.Test.YtdplogkmkgekdaaGreatDoorZParams
set_option linter.all false
set_option maxRecDepth 100000
set_option maxHeartbeats 4000000
namespace Go.Proofs.YtdplogkmkgekdaaGreatDoor.Pj
open Go.RowKit
structure Mf (w:World) (rb tb:Nat) (cap:Cp) (t:Tk) (i:Nat) (g:Prop) (W:World) (j:Nat) (L:List (Nat × Array Value)) (T:List (List Value)) (kv:Value) (vs:List (List Value)) (X V:List (List Nr)):Prop where
 z:Mid w rb tb cap t i 0 g W j 0 0 L T kv vs
 fT:Fl W T X
 fv:Fl W vs V
section
variable {w W w':World} {rb tb i j:Nat} {cap:Cp} {t:Tk} {g:Prop} {L:List (Nat × Array Value)} {T:List (List Value)} {kv:Value} {vs:List (List Value)} {X V:List (List Nr)}
theorem Mid.flats {k kj aj:Int} (q:Mid w rb tb cap t i k g W j kj aj L T kv vs) (hs:Same (Out w (L.map adr) kv) W w') (f:Nat):vs.map (flat f w')=vs.map (flat f W)∧T.map (flat f w')=T.map (flat f W):=by
 obtain⟨h,ha⟩:=q.all
 exact⟨List.map_congr_left (fun x hx=>flat_frame hs _ _ (ha x (.inl hx)) f),List.map_congr_left (fun x hx=>flat_frame hs _ _ (ha x (.inr hx)) f)⟩
theorem Mf.same (q:Mf w rb tb cap t i g W j L T kv vs X V) (hs:Same (Out w (L.map adr) kv) W w'):Fl w' T X∧Fl w' vs V:=
 ⟨q.fT.cong (fun f=>(q.z.flats hs f).2),q.fv.cong (fun f=>(q.z.flats hs f).1)⟩
theorem Mf.same_kp (q:Mf w rb tb cap t i g W j L T kv vs X V) (h2:Kp W.heap.size rb W w'):Fl w' T X∧Fl w' vs V:=
 q.same (Same.kp h2 (fun e=>by have:=e.1;have:=q.z.st.lb;omega))
theorem Mf.start (h:Rd w rb tb cap t i 0 0):Mf w rb tb cap t i False w i [] [] nl [] [] []:=⟨Mid.start h,Fl.nil,Fl.nil⟩
theorem Mf.st (q:Mf w rb tb cap t i g W j L T kv vs X V):St w rb tb cap t W j 0 0:=q.z.st
theorem Mf.le (q:Mf w rb tb cap t i g W j L T kv vs X V):i≤j:=q.z.le
theorem Mf.go (q:Mf w rb tb cap t i g W j L T kv vs X V):g→i<j:=fun x=>q.z.go x rfl
theorem Mf.nx (q:Mf w rb tb cap t i g W j L T kv vs X V) {must:Prop} {i':Nat} (hx:Nx W rb tb cap t j 0 must w' i' 0 0):Mf w rb tb cap t i g w' i' L T kv vs X V:=⟨q.z.nx hx,(q.same_kp hx.kp).1,(q.same_kp hx.kp).2⟩
theorem Mf.nxm (q:Mf w rb tb cap t i g W j L T kv vs X V) {i':Nat} (hx:Nx W rb tb cap t j 0 True w' i' 0 0):Mf w rb tb cap t i True w' i' L T kv vs X V:=⟨q.z.nxm hx,(q.same_kp hx.kp).1,(q.same_kp hx.kp).2⟩
theorem Mf.up (q:Mf w rb tb cap t i g W j L T kv vs X V) {g':Prop} (hg:g'→i<j):Mf w rb tb cap t i g' W j L T kv vs X V:=⟨q.z.up (fun x _=>hg x),q.fT,q.fv⟩
theorem Mf.below (q:Mf w rb tb cap t i g W j L T kv vs X V) (hb:Below W.heap.size W w'):Mf w rb tb cap t i g w' j L T kv vs X V:=q.nx (Nx.below q.z.st.rd hb)
theorem Mf.drew (q:Mf w rb tb cap t i g W j L T kv vs X V):Mf w rb tb cap t i g W.drew j L T kv vs X V:=q.below (Below.refl _ _).drew
theorem Mf.alloc (q:Mf w rb tb cap t i g W j L T kv vs X V) (ob:Obj):Mf w rb tb cap t i g (W.alloc ob) j L T kv vs X V:=q.below ((Below.refl _ _).alloc (Nat.le_refl _) ob)
theorem Mf.newAt (q:Mf w rb tb cap t i g W j L T kv vs X V) {ad:Nat} (had:ad=W.heap.size) (c:Array Value):Mf w rb tb cap t i g (W.alloc (.cells c 28)) j ((ad,c)::L) T kv vs X V:=⟨q.z.newAt had c,(q.alloc _).fT,(q.alloc _).fv⟩
theorem Mf.ne' (q:Mf w rb tb cap t i g W j L T kv vs X V) (ad:Nat) (c:Array Value) (had:ad=W.heap.size:=by simp):Mf w rb tb cap t i g (W.alloc (.cells c 28)) j ((ad,c)::L) T kv vs X V:=q.newAt had c
theorem Mf.put (q:Mf w rb tb cap t i g W j L T kv vs X V) (n:Nat) {b:Nat} {c:Array Value} (hn:L[n]? =some (b,c)) (ob:Nat) (u:Value):Mf w rb tb cap t i g (W.setCell ⟨b,ob,none⟩ u) j (L.set n (b,c.setIfInBounds ob u)) T kv vs X V:=by
 have h:=q.same (w':=W.setCell ⟨b,ob,none⟩ u) (Same.setCell _ ⟨b,ob,none⟩ _ (fun x=>x.2.1 (List.mem_map.2 ⟨_,List.mem_of_getElem? hn,rfl⟩)))
 exact⟨q.z.put n hn ob u,h.1,h.2⟩
theorem Mf.put11 (q:Mf w rb tb cap t i g W j L T kv vs X V) (n:Nat) {b:Nat} {d0 d1 d2 d3 d4 d5 d6 d7 d8 d9 d10:Value} (hn:L[n]? =some (b,#[d0,d1,d2,d3,d4,d5,d6,d7,d8,d9,d10])) (c0 c1 c2 c3 c4 c5 c6 c7 c8 c9 c10:Value):Mf w rb tb cap t i g (set11 W b c0 c1 c2 c3 c4 c5 c6 c7 c8 c9 c10) j (L.set n (b,#[c0,c1,c2,c3,c4,c5,c6,c7,c8,c9,c10])) T kv vs X V:=by
 have h:=q.same (w':=set11 W b c0 c1 c2 c3 c4 c5 c6 c7 c8 c9 c10) (Same.set11 (fun x=>x.2.1 (List.mem_map.2 ⟨_,List.mem_of_getElem? hn,rfl⟩)) _ _ _ _ _ _ _ _ _ _ _)
 exact⟨q.z.put11 n hn c0 c1 c2 c3 c4 c5 c6 c7 c8 c9 c10,h.1,h.2⟩
theorem Mf.node (q:Mf w rb tb cap t i g W j L T kv vs X V) {must:Prop} {i':Nat} (hx:Nx W rb tb cap t j 0 must w' i' 0 0) {c:List Value} (hn:NodeIn W.heap.size False w' c) {x:List Nr} (hf:Fl w' [c] [x]):Mf w rb tb cap t i g w' i' L (c::T) kv vs (x::X) V:=
 ⟨q.z.node hx hn,hf.cons (q.same_kp hx.kp).1,(q.same_kp hx.kp).2⟩
theorem Mf.nodem (q:Mf w rb tb cap t i g W j L T kv vs X V) {i':Nat} (hx:Nx W rb tb cap t j 0 True w' i' 0 0) {c:List Value} (hn:NodeIn W.heap.size False w' c) {x:List Nr} (hf:Fl w' [c] [x]):Mf w rb tb cap t i True w' i' L (c::T) kv vs (x::X) V:=
 ⟨q.z.nodem hx hn,hf.cons (q.same_kp hx.kp).1,(q.same_kp hx.kp).2⟩
theorem Mf.holds (q:Mf w rb tb cap t i g W j L T kv vs X V) {must:Prop} {i':Nat} (hx:Nx W rb tb cap t j 0 must w' i' 0 0) {kv':Value} {vs':List (List Value)} (hK:Kids W.heap.size False w' kv' vs') {F:List (List Nr)} (hf:Fl w' vs' F):Mf w rb tb cap t i g w' i' L (vs'++T) kv vs (F++X) V:=
 ⟨q.z.holds hx hK,hf.app (q.same_kp hx.kp).1,(q.same_kp hx.kp).2⟩
theorem Mf.list (q:Mf w rb tb cap t i g W j L T nl [] X V) {must:Prop} {i':Nat} (hx:Nx W rb tb cap t j 0 must w' i' 0 0) {kv':Value} {vs':List (List Value)} (hK:Kids W.heap.size False w' kv' vs') {F:List (List Nr)} (hf:Fl w' vs' F):Mf w rb tb cap t i g w' i' L T kv' vs' X F:=
 ⟨q.z.list hx hK,(q.same_kp hx.kp).1,hf⟩
theorem Mf.swap {a b:List Value} {x y:List Nr} (q:Mf w rb tb cap t i g W j L (a::b::T) kv vs (x::y::X) V):Mf w rb tb cap t i g W j L (b::a::T) kv vs (y::x::X) V:=
 ⟨q.z.swap,q.fT.tail.head.cons (q.fT.head.cons q.fT.tail.tail),q.fv⟩
theorem Mf.pop {p:Nat × Array Value} (q:Mf w rb tb cap t i g W j (p::L) T kv vs X V):Mf w rb tb cap t i g W j L T kv vs X V:=⟨q.z.pop,q.fT,q.fv⟩
theorem Mf.forgetT {c:List Value} {x:List Nr} (q:Mf w rb tb cap t i g W j L (c::T) kv vs (x::X) V):Mf w rb tb cap t i g W j L T kv vs X V:=⟨q.z.drop,q.fT.tail,q.fv⟩
theorem Mf.toT (q:Mf w rb tb cap t i g W j L T kv vs X V):Mf w rb tb cap t i g W j L (vs++T) nl [] (V++X) []:=⟨q.z.toT,q.fv.app q.fT,Fl.nil⟩
theorem Mf.made {us:List (List Value)} {U:List (List Nr)} (q:Mf w rb tb cap t i g W j L (us++T) nl [] (U++X) []) (cs:Array Value) (hcs:cs.toList=us.flatten) (hl:us.length≤20000) (h11:∀x∈us,x.length=11) {ad n:Nat} (had:ad=W.heap.size) (hn:n=us.length) (hU:U.length=us.length):Mf w rb tb cap t i g (W.alloc (.cells cs 28)) j L T (.slice (some ⟨ad,0,none⟩) n n) us X U:=by
 have h:=(q.alloc (.cells cs 28)).fT.split hU
 exact⟨q.z.made cs hcs hl h11 had hn,h.2,h.1⟩
theorem Mf.fo (q:Mf w rb tb cap t i g W j L T kv vs X V) (ki po n m:Int) (na:ByteArray) (hl:vs.length≤20000) (hp:0≤po∧po≤7000) (hn:na.size≤20000:=by decide):Mf w rb tb cap t i g W j L ((nodeC ki po n m na kv).toList::T) nl [] (nd ki po n m na V::X) []:=by
 obtain⟨h,ha⟩:=q.z.all
 exact⟨q.z.fold hl hn hp (fun e=>e.elim),(Fl.node q.z.row (fun x hx=>ha x (.inl hx)) q.fv).cons q.fT,Fl.nil⟩
theorem Mf.lk (q:Mf w rb tb cap t i g W j L T kv vs X V) (ki po n m:Int) (na:ByteArray) (hp:0≤po∧po≤7000) (hn:na.size≤20000:=by decide):Mf w rb tb cap t i g W j L ((nodeC ki po n m na nl).toList::T) kv vs (nd ki po n m na []::X) V:=
 ⟨q.z.leaf hn hp (fun e=>e.elim),(Fl.node (S:=fun _=>True) (g:=False) (h:=0) (base:=0) (World.ownsRow_nil _ _ _ _) (fun x hx=>by cases hx) Fl.nil).cons q.fT,q.fv⟩
theorem Mf.lit {us:List (List Value)} {U:List (List Nr)} (q:Mf w rb tb cap t i g W j L (us++T) kv vs (U++X) V) (cs:Array Value) (hcs:cs.toList=us.flatten) (hl:us.length≤20000) (h11:∀x∈us,x.length=11) {ad c:Nat} (had:ad=W.heap.size) (hc:c=us.length) {kind pos n m:Int} {name:ByteArray} (hn:name.size≤20000) (hp:0≤pos∧pos≤7000) (hU:U.length=us.length):Mf w rb tb cap t i g (W.alloc (.cells cs 28)) j L ((nodeC kind pos n m name (.slice (some ⟨ad,0,none⟩) c c)).toList::T) kv vs (nd kind pos n m name U::X) V:=by
 have q1:=q.alloc (.cells cs 28)
 have h:=q1.fT.split hU
 refine⟨q.z.lit cs hcs hl h11 had hc hn hp (fun e=>e.elim),?_,q1.fv⟩
 subst had hc
 obtain⟨hh,ha⟩:=q1.z.all
 have hsz:us.flatten.length=us.length*11:=by
  clear hcs hl q q1 h ha hU
  induction us with
  |nil=>rfl
  |cons x r ih=>simp only[List.flatten_cons,List.length_append,List.length_cons];rw[ih (fun y hy=>h11 y (List.mem_cons_of_mem _ hy)),h11 x (List.mem_cons_self ..)];omega
 have hrow:=World.ownsRow_lit (base:=0) (e:=28) (size:=11) W cs us.length (Nat.zero_le _) (by unfold maxLen;omega) (by rw[←Array.length_toList,hcs,hsz])
 rw[hcs] at hrow
 exact(Fl.node hrow (fun x hx=>ha x (.inr (List.mem_append.2 (.inl hx)))) h.1).cons h.2
variable {b0 b1 b2 b3:Nat} {c0 c1 c2 c3:Array Value} {ki po n m:Int} {na:ByteArray} {v:Value} {a b c d:Nat} {x y z u:Array Value} {X1 X2:List Nr} {kx px nx mx ky py ny my:Int} {ax ay:ByteArray} {vx vy:Value}
theorem Mf.m1 (q:Mf w rb tb cap t i g W j L ((nodeC kx px nx mx ax vx).toList::T) nl [] (X1::X) []) (ad:Nat) (had:ad=W.heap.size:=by simp):Mf w rb tb cap t i g (W.alloc (.cells (nodeC kx px nx mx ax vx) 28)) j L T (sl ad 1) [(nodeC kx px nx mx ax vx).toList] X [X1]:=Mf.made (us:=[(nodeC kx px nx mx ax vx).toList]) (U:=[X1]) (T:=T) q _ (by simp) (by simp) (by simp) had rfl rfl
theorem Mf.m2 (q:Mf w rb tb cap t i g W j L ((nodeC kx px nx mx ax vx).toList::(nodeC ky py ny my ay vy).toList::T) nl [] (X1::X2::X) []) (ad:Nat) (had:ad=W.heap.size:=by simp):Mf w rb tb cap t i g (W.alloc (.cells (nodeC2 kx px nx mx ax vx ky py ny my ay vy) 28)) j L T (sl ad 2) [(nodeC kx px nx mx ax vx).toList,(nodeC ky py ny my ay vy).toList] X [X1,X2]:=Mf.made (us:=[(nodeC kx px nx mx ax vx).toList,(nodeC ky py ny my ay vy).toList]) (U:=[X1,X2]) (T:=T) q (nodeC2 kx px nx mx ax vx ky py ny my ay vy) (by simp) (by simp) (by simp) had rfl rfl
theorem Mf.l1 (q:Mf w rb tb cap t i g W j L ((nodeC kx px nx mx ax vx).toList::T) kv vs (X1::X) V) (ad:Nat) (ki po n m:Int) (na:ByteArray) (hp:0≤po∧po≤7000) (hn:na.size≤20000:=by decide) (had:ad=W.heap.size:=by simp):Mf w rb tb cap t i g (W.alloc (.cells (nodeC kx px nx mx ax vx) 28)) j L ((nodeC ki po n m na (sl ad 1)).toList::T) kv vs (nd ki po n m na [X1]::X) V:=Mf.lit (U:=[X1]) (us:=[(nodeC kx px nx mx ax vx).toList]) (T:=T) q _ (by simp) (by simp) (by simp) had rfl hn hp rfl
theorem Mf.l2 (q:Mf w rb tb cap t i g W j L ((nodeC kx px nx mx ax vx).toList::(nodeC ky py ny my ay vy).toList::T) kv vs (X1::X2::X) V) (ad:Nat) (ki po n m:Int) (na:ByteArray) (hp:0≤po∧po≤7000) (hn:na.size≤20000:=by decide) (had:ad=W.heap.size:=by simp):Mf w rb tb cap t i g (W.alloc (.cells (nodeC2 kx px nx mx ax vx ky py ny my ay vy) 28)) j L ((nodeC ki po n m na (sl ad 2)).toList::T) kv vs (nd ki po n m na [X1,X2]::X) V:=Mf.lit (U:=[X1,X2]) (us:=[(nodeC kx px nx mx ax vx).toList,(nodeC ky py ny my ay vy).toList]) (T:=T) q (nodeC2 kx px nx mx ax vx ky py ny my ay vy) (by simp) (by simp) (by simp) had rfl hn hp rfl
theorem Mf.at (q:Mf w rb tb cap t i g W j L T kv vs X V) (n:Nat) {b:Nat} {c:Array Value} (hn:L[n]? =some (b,c)):(∀o,W.cell? ⟨b,o,none⟩=c[o]?)∧(∀o,W.frozen? ⟨b,o,none⟩=false)∧b<W.heap.size∧b≠rb:=q.z.at n hn
theorem Mf.ne (q:Mf w rb tb cap t i g W j L T kv vs X V) (n m:Nat) {b b':Nat} {c c':Array Value} (hn:L[n]? =some (b,c)) (hm:L[m]? =some (b',c')) (h:n≠m):b≠b'∧b'≠b:=q.z.ne n m hn hm h
theorem Mf.shape (q:Mf w rb tb cap t i g W j L T kv vs X V):∃ao cp,kv=.slice ao vs.length cp:=q.z.shape
theorem Mf.rebase (q:Mf w rb tb cap t i g W j L T kv vs X V):Mf w rb tb cap t j False W j L T kv vs X V:=⟨q.z.rebase,q.fT,q.fv⟩
theorem Mf.unbase {i':Nat} {g':Prop} (q:Mf w rb tb cap t i g W j L T kv vs X V) (h1:i'≤i) (h3:g'→i'<i):Mf w rb tb cap t i' g' W j L T kv vs X V:=⟨q.z.unbase h1 (fun e=>e) (fun x _=>h3 x),q.fT,q.fv⟩
theorem Mf.fa (q:Mf w rb tb cap t i g W j L T kv vs X V) (n:Nat) {b:Nat} {c:Array Value} (hn:L[n]? =some (b,c)):Fc W rb b c:=by
 obtain⟨h1,h2,h3,h4⟩:=q.at n hn
 exact⟨h1,h2,h3,h4,fun e=>h4 e.symm⟩
theorem Mf.f1 (q:Mf w rb tb cap t i g W j ((a,x)::L) T kv vs X V):Fc W rb a x:=q.fa 0 rfl
theorem Mf.f2 (q:Mf w rb tb cap t i g W j ((a,x)::(b,y)::L) T kv vs X V):Fc W rb a x∧Fc W rb b y∧a≠b∧b≠a:=⟨q.fa 0 rfl,q.fa 1 rfl,q.ne 0 1 rfl rfl (by decide)⟩
theorem Mf.f3 (q:Mf w rb tb cap t i g W j ((a,x)::(b,y)::(c,z)::L) T kv vs X V):Fc W rb a x∧Fc W rb b y∧Fc W rb c z∧(a≠b∧b≠a)∧(a≠c∧c≠a)∧b≠c∧c≠b:=⟨q.fa 0 rfl,q.fa 1 rfl,q.fa 2 rfl,q.ne 0 1 rfl rfl (by decide),q.ne 0 2 rfl rfl (by decide),q.ne 1 2 rfl rfl (by decide)⟩
theorem Mf.f4 (q:Mf w rb tb cap t i g W j ((a,x)::(b,y)::(c,z)::(d,u)::L) T kv vs X V):Fc W rb a x∧Fc W rb b y∧Fc W rb c z∧Fc W rb d u∧(a≠b∧b≠a)∧(a≠c∧c≠a)∧(b≠c∧c≠b)∧(a≠d∧d≠a)∧(b≠d∧d≠b)∧c≠d∧d≠c:=⟨q.fa 0 rfl,q.fa 1 rfl,q.fa 2 rfl,q.fa 3 rfl,q.ne 0 1 rfl rfl (by decide),q.ne 0 2 rfl rfl (by decide),q.ne 1 2 rfl rfl (by decide),q.ne 0 3 rfl rfl (by decide),q.ne 1 3 rfl rfl (by decide),q.ne 2 3 rfl rfl (by decide)⟩
theorem Mf.p00 (q:Mf w rb tb cap t i g W j ((b,nodeC ki po n m na v)::L) T kv vs X V) (Y:Int):Mf w rb tb cap t i g (W.setCell ⟨b,0,none⟩ (.int .i64 Y)) j ((b,nodeC Y po n m na v)::L) T kv vs X V:=q.put 0 rfl 0 (.int .i64 Y)
theorem Mf.p02 (q:Mf w rb tb cap t i g W j ((b,nodeC ki po n m na v)::L) T kv vs X V) (Y:Int):Mf w rb tb cap t i g (W.setCell ⟨b,2,none⟩ (.int .i64 Y)) j ((b,nodeC ki po Y m na v)::L) T kv vs X V:=q.put 0 rfl 2 (.int .i64 Y)
theorem Mf.p03 (q:Mf w rb tb cap t i g W j ((b,nodeC ki po n m na v)::L) T kv vs X V) (Y:Int):Mf w rb tb cap t i g (W.setCell ⟨b,3,none⟩ (.int .i64 Y)) j ((b,nodeC ki po n Y na v)::L) T kv vs X V:=q.put 0 rfl 3 (.int .i64 Y)
theorem Mf.p04 (q:Mf w rb tb cap t i g W j ((b,nodeC ki po n m na v)::L) T kv vs X V) (Y:ByteArray):Mf w rb tb cap t i g (W.setCell ⟨b,4,none⟩ (.string Y)) j ((b,nodeC ki po n m Y v)::L) T kv vs X V:=q.put 0 rfl 4 (.string Y)
theorem Mf.p05 (q:Mf w rb tb cap t i g W j ((b,nodeC ki po n m na v)::L) T kv vs X V) (Y:Value):Mf w rb tb cap t i g (W.setCell ⟨b,5,none⟩ Y) j ((b,nodeC ki po n m na Y)::L) T kv vs X V:=q.put 0 rfl 5 Y
theorem Mf.pA0 (q:Mf w rb tb cap t i g W j ((b,nodeC ki po n m na v)::L) T kv vs X V) (K P Q R:Int) (Z:ByteArray) (Y:Value):Mf w rb tb cap t i g (set11 W b (.int .i64 K) (.int .i64 P) (.int .i64 Q) (.int .i64 R) (.string Z) Y (.int .i64 0) (.int .i64 0) nl nl nl) j ((b,nodeC K P Q R Z Y)::L) T kv vs X V:=q.put11 0 rfl _ _ _ _ _ _ _ _ _ _ _
theorem Mf.p10 (q:Mf w rb tb cap t i g W j ((b0,c0)::(b,nodeC ki po n m na v)::L) T kv vs X V) (Y:Int):Mf w rb tb cap t i g (W.setCell ⟨b,0,none⟩ (.int .i64 Y)) j ((b0,c0)::(b,nodeC Y po n m na v)::L) T kv vs X V:=q.put 1 rfl 0 (.int .i64 Y)
theorem Mf.p12 (q:Mf w rb tb cap t i g W j ((b0,c0)::(b,nodeC ki po n m na v)::L) T kv vs X V) (Y:Int):Mf w rb tb cap t i g (W.setCell ⟨b,2,none⟩ (.int .i64 Y)) j ((b0,c0)::(b,nodeC ki po Y m na v)::L) T kv vs X V:=q.put 1 rfl 2 (.int .i64 Y)
theorem Mf.p13 (q:Mf w rb tb cap t i g W j ((b0,c0)::(b,nodeC ki po n m na v)::L) T kv vs X V) (Y:Int):Mf w rb tb cap t i g (W.setCell ⟨b,3,none⟩ (.int .i64 Y)) j ((b0,c0)::(b,nodeC ki po n Y na v)::L) T kv vs X V:=q.put 1 rfl 3 (.int .i64 Y)
theorem Mf.p14 (q:Mf w rb tb cap t i g W j ((b0,c0)::(b,nodeC ki po n m na v)::L) T kv vs X V) (Y:ByteArray):Mf w rb tb cap t i g (W.setCell ⟨b,4,none⟩ (.string Y)) j ((b0,c0)::(b,nodeC ki po n m Y v)::L) T kv vs X V:=q.put 1 rfl 4 (.string Y)
theorem Mf.p15 (q:Mf w rb tb cap t i g W j ((b0,c0)::(b,nodeC ki po n m na v)::L) T kv vs X V) (Y:Value):Mf w rb tb cap t i g (W.setCell ⟨b,5,none⟩ Y) j ((b0,c0)::(b,nodeC ki po n m na Y)::L) T kv vs X V:=q.put 1 rfl 5 Y
theorem Mf.pA1 (q:Mf w rb tb cap t i g W j ((b0,c0)::(b,nodeC ki po n m na v)::L) T kv vs X V) (K P Q R:Int) (Z:ByteArray) (Y:Value):Mf w rb tb cap t i g (set11 W b (.int .i64 K) (.int .i64 P) (.int .i64 Q) (.int .i64 R) (.string Z) Y (.int .i64 0) (.int .i64 0) nl nl nl) j ((b0,c0)::(b,nodeC K P Q R Z Y)::L) T kv vs X V:=q.put11 1 rfl _ _ _ _ _ _ _ _ _ _ _
theorem Mf.p20 (q:Mf w rb tb cap t i g W j ((b0,c0)::(b1,c1)::(b,nodeC ki po n m na v)::L) T kv vs X V) (Y:Int):Mf w rb tb cap t i g (W.setCell ⟨b,0,none⟩ (.int .i64 Y)) j ((b0,c0)::(b1,c1)::(b,nodeC Y po n m na v)::L) T kv vs X V:=q.put 2 rfl 0 (.int .i64 Y)
theorem Mf.p22 (q:Mf w rb tb cap t i g W j ((b0,c0)::(b1,c1)::(b,nodeC ki po n m na v)::L) T kv vs X V) (Y:Int):Mf w rb tb cap t i g (W.setCell ⟨b,2,none⟩ (.int .i64 Y)) j ((b0,c0)::(b1,c1)::(b,nodeC ki po Y m na v)::L) T kv vs X V:=q.put 2 rfl 2 (.int .i64 Y)
theorem Mf.p23 (q:Mf w rb tb cap t i g W j ((b0,c0)::(b1,c1)::(b,nodeC ki po n m na v)::L) T kv vs X V) (Y:Int):Mf w rb tb cap t i g (W.setCell ⟨b,3,none⟩ (.int .i64 Y)) j ((b0,c0)::(b1,c1)::(b,nodeC ki po n Y na v)::L) T kv vs X V:=q.put 2 rfl 3 (.int .i64 Y)
theorem Mf.p24 (q:Mf w rb tb cap t i g W j ((b0,c0)::(b1,c1)::(b,nodeC ki po n m na v)::L) T kv vs X V) (Y:ByteArray):Mf w rb tb cap t i g (W.setCell ⟨b,4,none⟩ (.string Y)) j ((b0,c0)::(b1,c1)::(b,nodeC ki po n m Y v)::L) T kv vs X V:=q.put 2 rfl 4 (.string Y)
theorem Mf.p25 (q:Mf w rb tb cap t i g W j ((b0,c0)::(b1,c1)::(b,nodeC ki po n m na v)::L) T kv vs X V) (Y:Value):Mf w rb tb cap t i g (W.setCell ⟨b,5,none⟩ Y) j ((b0,c0)::(b1,c1)::(b,nodeC ki po n m na Y)::L) T kv vs X V:=q.put 2 rfl 5 Y
theorem Mf.pA2 (q:Mf w rb tb cap t i g W j ((b0,c0)::(b1,c1)::(b,nodeC ki po n m na v)::L) T kv vs X V) (K P Q R:Int) (Z:ByteArray) (Y:Value):Mf w rb tb cap t i g (set11 W b (.int .i64 K) (.int .i64 P) (.int .i64 Q) (.int .i64 R) (.string Z) Y (.int .i64 0) (.int .i64 0) nl nl nl) j ((b0,c0)::(b1,c1)::(b,nodeC K P Q R Z Y)::L) T kv vs X V:=q.put11 2 rfl _ _ _ _ _ _ _ _ _ _ _
end
end Go.Proofs.YtdplogkmkgekdaaGreatDoor.Pj
