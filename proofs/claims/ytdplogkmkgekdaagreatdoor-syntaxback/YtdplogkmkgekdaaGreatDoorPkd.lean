/- What throws: the grammar answers that fault; a call that throws; the end of a path that does, by a script. -/
import Derived.Test.YtdplogkmkgekdaaGreatDoorFParseA
import Derived.Test.YtdplogkmkgekdaaGreatDoorPkb
import Derived.Test.YtdplogkmkgekdaaGreatDoorFPath
import Derived.Test.YtdplogkmkgekdaaGreatDoorFDeep
import Derived.Test.YtdplogkmkgekdaaGreatDoorGmb
set_option linter.all false
set_option maxRecDepth 100000
set_option maxHeartbeats 4000000
namespace Go.Proofs.YtdplogkmkgekdaaGreatDoor
open Go.RowKit
theorem IJ {P:cK→Prop} {s:ByteArray} (hP:∀i,i<s.size→(one s i).err=0→P ⟨(one s i).kind,i,dD s i (one s i),(one s i).n⟩):∀(b i:Nat) (rs:List cK) (ts:List (List Value)),i≤s.size→(∀r∈rs,P r)→lexFrom b s i (rs.map cK.cells)=.inr ts→
 ∃rs':List cK,ts=(rs'++[(⟨0,s.size,⟨#[]⟩,0⟩:cK)]).map cK.cells∧∀r∈rs',P r:=by
 intro b
 induction b with
 |zero=>
  intro i rs ts hi hr h
  have h':Sum.inr (rs.map cK.cells++[oz 0 s.size ⟨#[]⟩ 0])=(Sum.inr ts:DF):=h
  refine⟨rs,?_,hr⟩
  have:=Sum.inr.inj h'
  rw[←this]
  simp[cK.cells]
 |succ b ih=>
  intro i rs ts hi hr h
  by_cases hlt:i<s.size
  ·cases hb:iH (aK s i)
   ·by_cases wZ:aK s i=35
    ·rw[Bu hlt wZ] at h
     have h1:=iI kK s i hi
     exact ih _ rs ts h1 hr h
    ·by_cases he:(one s i).err=0
     ·rw[uD hlt hb wZ he] at h
      have h1:=rT hlt he
      have h2:=hP i hlt he
      refine ih (one s i).stop (rs++[⟨(one s i).kind,i,dD s i (one s i),(one s i).n⟩]) ts h1.2 ?_ (by simpa[cK.cells,jX] using h)
      intro r hm
      rcases List.mem_append.1 hm with hm|hm
      ·exact hr r hm
      ·obtain rfl:r=_:=by simpa using hm
       exact h2
     ·rw[Bv hlt hb wZ he] at h
      exact absurd h (by simp)
   ·rw[uY hlt hb] at h
    exact ih _ rs ts (by omega) hr h
  ·rw[xU hlt] at h
   refine⟨rs,?_,hr⟩
   have:=Sum.inr.inj h
   rw[←this]
   simp[cK.cells]
namespace Pj
def hdN (s:ByteArray):Nat:=match s.data.toList with
 |[]=>0
 |b::_=>b.toNat
theorem D8 {x y:ByteArray} (h:x.toList=y.toList):hdN x=hdN y:=by
 rw[Lib.toList_data,Lib.toList_data] at h
 unfold hdN
 rw[h]
theorem Lb {s:ByteArray} {i e:Nat} (hi:i<s.size) (he:i<e):hdN (s.extract i e)=aK s i:=by
 have hsz:0<(s.extract i e).size:=by simp;omega
 have h0:(s.extract i e).data.toList=(s.extract i e).data.toList:=rfl
 unfold hdN
 cases h:(s.extract i e).data.toList with
 |nil=>
  have:=kQ (s.extract i e)
  rw[h] at this
  simp at this
  omega
 |cons b l=>
  have h1:(s.extract i e).data.toList[0]? =some b:=by rw[h];rfl
  have h2:(s.extract i e)[0]'hsz=s[i]'hi:=by
   rw[ByteArray.getElem_extract]
   simp
  have h3:(s.extract i e).data.toList[0]? =some ((s.extract i e)[0]'hsz):=by
   rw[List.getElem?_eq_getElem (by rw[kQ];exact hsz)]
   rfl
  rw[h3] at h1
  have h4:=Option.some.inj h1
  rw[mO hi,←h2,h4]
def cK.cl (r:cK):Prop:=((r.kind=5∧∀s∈Db,r.text.toList≠s.toList)∨r.kind=3)∨∀s∈gL,r.text.toList≠s.toList
theorem EZ:∀s∈gL,(hdN s≠0∧hdN s≠39)∧(dL (hdN s)=true→(sZ.any fun b=>s.data.toList==b.data.toList)=true):=by decide
theorem Cm (l:List UInt8):isWord l=sZ.any fun b=>l==b.data.toList:=by
 unfold isWord
 simp only[Lib.toList_data]
theorem Xo:∀s∈Db,dL (hdN s)=true:=by decide
theorem Dc {k p n:Nat}:cK.cl ⟨k,p,⟨#[]⟩,n⟩:=.inr fun s hs e=>(EZ s hs).1.1 (D8 e).symm
theorem aaG {s:ByteArray} {i:Nat} (hi:i<s.size) (he:(one s i).err=0):cK.cl ⟨(one s i).kind,i,dD s i (one s i),(one s i).n⟩:=by
 have hstop:=rT hi he
 by_cases h1:bV (aK s i)=true
 ·have hk:(one s i).kind=1:=by
   unfold one at he⊢
   rw[if_pos h1] at he⊢
   split at he<;>simp_all
  rw[show dD s i (one s i)=⟨#[]⟩ from if_pos hk]
  exact Dc
 ·have hk1:(one s i).kind≠1:=by
   unfold one
   rw[if_neg h1]
   split
   ·split
    ·simp
    ·split<;>simp
   ·split
    ·split<;>simp
    ·split<;>simp
  have ht:dD s i (one s i)=s.extract i (one s i).stop:=if_neg hk1
  have hh:hdN (dD s i (one s i))=aK s i:=by rw[ht];exact Lb hi hstop.1
  by_cases h2:dL (aK s i)=true
  ·by_cases h3:isWord (s.extract i (aH bq s i)).toList=true
   ·exact .inl (.inr (by show(one s i).kind=3;unfold one;rw[if_neg h1,if_pos h2,if_pos h3]))
   ·refine .inr fun x hx e=>h3 ?_
    have e1:(dD s i (one s i)).toList=x.toList:=e
    have e2:=D8 e1
    rw[hh] at e2
    have e3:=(EZ x hx).2 (by rw[←e2];exact h2)
    have e4:(one s i).stop=aH bq s i:=by
     unfold one at he⊢
     rw[if_neg h1,if_pos h2,if_neg h3] at he⊢
     split at he
     ·simp at he
     ·rename_i h5
      rw[if_neg h5]
    rw[ht,e4] at e1
    rw[e1,Lib.toList_data,Cm]
    exact e3
  ·by_cases h3:(aK s i==39&&dL (aK s (i+1)))=true
   ·refine .inr fun x hx e=>(EZ x hx).1.2 ?_
    have e2:hdN (dD s i (one s i))=hdN x:=D8 e
    rw[hh] at e2
    have:aK s i=39:=by simp at h3;exact h3.1
    omega
   ·refine .inl (.inl ⟨?_,fun x hx e=>h2 ?_⟩)
    ·show(one s i).kind=5
     unfold one at he⊢
     rw[if_neg h1,if_neg h2,if_neg h3] at he⊢
     split at he
     ·simp at he
     ·rename_i h5
      rw[if_neg h5]
    ·have e2:hdN (dD s i (one s i))=hdN x:=D8 e
     rw[hh] at e2
     rw[e2]
     exact Xo x hx
theorem Pf {s:ByteArray} {ts:List (List Value)} (hl:iE s=.inr ts):Clean (Iz ts):=by
 have hl':lexFrom s.size s 0 (([]:List cK).map cK.cells)=.inr ts:=by
  unfold iE at hl
  split at hl
  ·simp at hl
  ·exact hl
 obtain⟨rs',e,hok⟩:=IJ (P:=cK.cl) (fun i hi he=>aaG hi he) s.size 0 [] ts (Nat.zero_le _) (fun r hr=>by cases hr) hl'
 rw[e,xZ]
 intro j
 show cK.cl _
 cases h:(rs'++[(⟨0,s.size,⟨#[]⟩,0⟩:cK)])[j]? with
 |none=>exact Dc
 |some r=>
  rcases List.mem_append.1 (List.mem_of_getElem? h) with hr|hr
  ·exact hok r hr
  ·obtain rfl:r=_:=by simpa using hr
   exact Dc
end Pj
end Go.Proofs.YtdplogkmkgekdaaGreatDoor
namespace Go.Proofs.YtdplogkmkgekdaaGreatDoor.Pj
open Go.RowKit
structure Mf (w:World) (rb tb:Nat) (cap:Cp) (t:Tk) (i:Nat) (g:Prop) (W:World) (j:Nat) (L:List (Nat × Array Value)) (T:List (List Value)) (kv:Value) (vs:List (List Value)) (X V:List (List Nr)):Prop where
 z:Mid w rb tb cap t i 0 g W j 0 0 L T kv vs
 fT:Fl W T X
 fv:Fl W vs V
section
variable {w W w':World} {rb tb i j:Nat} {cap:Cp} {t:Tk} {g:Prop} {L:List (Nat × Array Value)} {T:List (List Value)} {kv:Value} {vs:List (List Value)} {X V:List (List Nr)}
theorem Mid.Un {k kj aj:Int} (q:Mid w rb tb cap t i k g W j kj aj L T kv vs) (hs:Same (Out w (L.map oH) kv) W w') (f:Nat):vs.map (flat f w')=vs.map (flat f W)∧T.map (flat f w')=T.map (flat f W):=by
 obtain⟨h,ha⟩:=q.all
 exact⟨List.map_congr_left (fun x hx=>lY hs _ _ (ha x (.inl hx)) f),List.map_congr_left (fun x hx=>lY hs _ _ (ha x (.inr hx)) f)⟩
theorem Mf.same (q:Mf w rb tb cap t i g W j L T kv vs X V) (hs:Same (Out w (L.map oH) kv) W w'):Fl w' T X∧Fl w' vs V:=
 ⟨q.fT.CU (fun f=>(q.z.Un hs f).2),q.fv.CU (fun f=>(q.z.Un hs f).1)⟩
theorem Mf.oW (q:Mf w rb tb cap t i g W j L T kv vs X V) (h2:Kp W.heap.size rb W w'):Fl w' T X∧Fl w' vs V:=
 q.same (Same.kp h2 (fun e=>by have:=e.1;have:=q.z.st.lb;omega))
theorem Mf.start (h:Rd w rb tb cap t i 0 0):Mf w rb tb cap t i False w i [] [] nl [] [] []:=⟨Mid.start h,Fl.nil,Fl.nil⟩
theorem Mf.st (q:Mf w rb tb cap t i g W j L T kv vs X V):St w rb tb cap t W j 0 0:=q.z.st
theorem Mf.le (q:Mf w rb tb cap t i g W j L T kv vs X V):i≤j:=q.z.le
theorem Mf.go (q:Mf w rb tb cap t i g W j L T kv vs X V):g→i<j:=fun x=>q.z.go x rfl
theorem Mf.nx (q:Mf w rb tb cap t i g W j L T kv vs X V) {must:Prop} {i':Nat} (hx:Nx W rb tb cap t j 0 must w' i' 0 0):Mf w rb tb cap t i g w' i' L T kv vs X V:=⟨q.z.nx hx,(q.oW hx.kp).1,(q.oW hx.kp).2⟩
theorem Mf.yh (q:Mf w rb tb cap t i g W j L T kv vs X V) {i':Nat} (hx:Nx W rb tb cap t j 0 True w' i' 0 0):Mf w rb tb cap t i True w' i' L T kv vs X V:=⟨q.z.yh hx,(q.oW hx.kp).1,(q.oW hx.kp).2⟩
theorem Mf.up (q:Mf w rb tb cap t i g W j L T kv vs X V) {g':Prop} (hg:g'→i<j):Mf w rb tb cap t i g' W j L T kv vs X V:=⟨q.z.up (fun x _=>hg x),q.fT,q.fv⟩
theorem Mf.below (q:Mf w rb tb cap t i g W j L T kv vs X V) (hb:Below W.heap.size W w'):Mf w rb tb cap t i g w' j L T kv vs X V:=q.nx (Nx.below q.z.st.rd hb)
theorem Mf.drew (q:Mf w rb tb cap t i g W j L T kv vs X V):Mf w rb tb cap t i g W.drew j L T kv vs X V:=q.below (Below.refl _ _).drew
theorem Mf.alloc (q:Mf w rb tb cap t i g W j L T kv vs X V) (ob:Obj):Mf w rb tb cap t i g (W.alloc ob) j L T kv vs X V:=q.below ((Below.refl _ _).alloc (Nat.le_refl _) ob)
theorem Mf.newAt (q:Mf w rb tb cap t i g W j L T kv vs X V) {ad:Nat} (had:ad=W.heap.size) (c:Array Value):Mf w rb tb cap t i g (W.alloc (.cells c 28)) j ((ad,c)::L) T kv vs X V:=⟨q.z.newAt had c,(q.alloc _).fT,(q.alloc _).fv⟩
theorem Mf.ne' (q:Mf w rb tb cap t i g W j L T kv vs X V) (ad:Nat) (c:Array Value) (had:ad=W.heap.size:=by simp):Mf w rb tb cap t i g (W.alloc (.cells c 28)) j ((ad,c)::L) T kv vs X V:=q.newAt had c
theorem Mf.put (q:Mf w rb tb cap t i g W j L T kv vs X V) (n:Nat) {b:Nat} {c:Array Value} (hn:L[n]? =some (b,c)) (ob:Nat) (u:Value):Mf w rb tb cap t i g (W.setCell ⟨b,ob,none⟩ u) j (L.set n (b,c.setIfInBounds ob u)) T kv vs X V:=by
 have h:=q.same (w':=W.setCell ⟨b,ob,none⟩ u) (Same.setCell _ ⟨b,ob,none⟩ _ (fun x=>x.2.1 (List.mem_map.2 ⟨_,List.mem_of_getElem? hn,rfl⟩)))
 exact⟨q.z.put n hn ob u,h.1,h.2⟩
theorem Mf.zw (q:Mf w rb tb cap t i g W j L T kv vs X V) (n:Nat) {b:Nat} {d0 d1 d2 d3 d4 d5 d6 d7 d8 d9 d10:Value} (hn:L[n]? =some (b,#[d0,d1,d2,d3,d4,d5,d6,d7,d8,d9,d10])) (c0 c1 c2 c3 c4 c5 c6 c7 c8 c9 c10:Value):Mf w rb tb cap t i g (bC W b c0 c1 c2 c3 c4 c5 c6 c7 c8 c9 c10) j (L.set n (b,#[c0,c1,c2,c3,c4,c5,c6,c7,c8,c9,c10])) T kv vs X V:=by
 have h:=q.same (w':=bC W b c0 c1 c2 c3 c4 c5 c6 c7 c8 c9 c10) (Same.bC (fun x=>x.2.1 (List.mem_map.2 ⟨_,List.mem_of_getElem? hn,rfl⟩)) _ _ _ _ _ _ _ _ _ _ _)
 exact⟨q.z.zw n hn c0 c1 c2 c3 c4 c5 c6 c7 c8 c9 c10,h.1,h.2⟩
theorem Mf.node (q:Mf w rb tb cap t i g W j L T kv vs X V) {must:Prop} {i':Nat} (hx:Nx W rb tb cap t j 0 must w' i' 0 0) {c:List Value} (hn:kJ W.heap.size False w' c) {x:List Nr} (hf:Fl w' [c] [x]):Mf w rb tb cap t i g w' i' L (c::T) kv vs (x::X) V:=
 ⟨q.z.node hx hn,hf.cons (q.oW hx.kp).1,(q.oW hx.kp).2⟩
theorem Mf.D7 (q:Mf w rb tb cap t i g W j L T kv vs X V) {i':Nat} (hx:Nx W rb tb cap t j 0 True w' i' 0 0) {c:List Value} (hn:kJ W.heap.size False w' c) {x:List Nr} (hf:Fl w' [c] [x]):Mf w rb tb cap t i True w' i' L (c::T) kv vs (x::X) V:=
 ⟨q.z.D7 hx hn,hf.cons (q.oW hx.kp).1,(q.oW hx.kp).2⟩
theorem Mf.holds (q:Mf w rb tb cap t i g W j L T kv vs X V) {must:Prop} {i':Nat} (hx:Nx W rb tb cap t j 0 must w' i' 0 0) {kv':Value} {vs':List (List Value)} (hK:Kids W.heap.size False w' kv' vs') {F:List (List Nr)} (hf:Fl w' vs' F):Mf w rb tb cap t i g w' i' L (vs'++T) kv vs (F++X) V:=
 ⟨q.z.holds hx hK,hf.app (q.oW hx.kp).1,(q.oW hx.kp).2⟩
theorem Mf.list (q:Mf w rb tb cap t i g W j L T nl [] X V) {must:Prop} {i':Nat} (hx:Nx W rb tb cap t j 0 must w' i' 0 0) {kv':Value} {vs':List (List Value)} (hK:Kids W.heap.size False w' kv' vs') {F:List (List Nr)} (hf:Fl w' vs' F):Mf w rb tb cap t i g w' i' L T kv' vs' X F:=
 ⟨q.z.list hx hK,(q.oW hx.kp).1,hf⟩
theorem Mf.swap {a b:List Value} {x y:List Nr} (q:Mf w rb tb cap t i g W j L (a::b::T) kv vs (x::y::X) V):Mf w rb tb cap t i g W j L (b::a::T) kv vs (y::x::X) V:=
 ⟨q.z.swap,q.fT.tail.head.cons (q.fT.head.cons q.fT.tail.tail),q.fv⟩
theorem Mf.pop {p:Nat × Array Value} (q:Mf w rb tb cap t i g W j (p::L) T kv vs X V):Mf w rb tb cap t i g W j L T kv vs X V:=⟨q.z.pop,q.fT,q.fv⟩
theorem Mf.Um (q:Mf w rb tb cap t i g W j L T kv vs X V):Mf w rb tb cap t i g W j L (vs++T) nl [] (V++X) []:=⟨q.z.Um,q.fv.app q.fT,Fl.nil⟩
theorem Mf.made {us:List (List Value)} {U:List (List Nr)} (q:Mf w rb tb cap t i g W j L (us++T) nl [] (U++X) []) (cs:Array Value) (hcs:cs.toList=us.flatten) (hl:us.length≤20000) (h11:∀x∈us,x.length=11) {ad n:Nat} (had:ad=W.heap.size) (hn:n=us.length) (hU:U.length=us.length):Mf w rb tb cap t i g (W.alloc (.cells cs 28)) j L T (.slice (some ⟨ad,0,none⟩) n n) us X U:=by
 have h:=(q.alloc (.cells cs 28)).fT.split hU
 exact⟨q.z.made cs hcs hl h11 had hn,h.2,h.1⟩
theorem Mf.fo (q:Mf w rb tb cap t i g W j L T kv vs X V) (ki po n m:Int) (na:ByteArray) (hl:vs.length≤20000) (hp:0≤po∧po≤7000) (hn:na.size≤20000:=by decide):Mf w rb tb cap t i g W j L ((ah ki po n m na kv).toList::T) nl [] (nd ki po n m na V::X) []:=by
 obtain⟨h,ha⟩:=q.z.all
 exact⟨q.z.fold hl hn hp (fun e=>e.elim),(Fl.node q.z.row (fun x hx=>ha x (.inl hx)) q.fv).cons q.fT,Fl.nil⟩
theorem Mf.lk (q:Mf w rb tb cap t i g W j L T kv vs X V) (ki po n m:Int) (na:ByteArray) (hp:0≤po∧po≤7000) (hn:na.size≤20000:=by decide):Mf w rb tb cap t i g W j L ((ah ki po n m na nl).toList::T) kv vs (nd ki po n m na []::X) V:=
 ⟨q.z.leaf hn hp (fun e=>e.elim),(Fl.node (S:=fun _=>True) (g:=False) (h:=0) (base:=0) (World.ownsRow_nil _ _ _ _) (fun x hx=>by cases hx) Fl.nil).cons q.fT,q.fv⟩
theorem Mf.lit {us:List (List Value)} {U:List (List Nr)} (q:Mf w rb tb cap t i g W j L (us++T) kv vs (U++X) V) (cs:Array Value) (hcs:cs.toList=us.flatten) (hl:us.length≤20000) (h11:∀x∈us,x.length=11) {ad c:Nat} (had:ad=W.heap.size) (hc:c=us.length) {kind pos n m:Int} {name:ByteArray} (hn:name.size≤20000) (hp:0≤pos∧pos≤7000) (hU:U.length=us.length):Mf w rb tb cap t i g (W.alloc (.cells cs 28)) j L ((ah kind pos n m name (.slice (some ⟨ad,0,none⟩) c c)).toList::T) kv vs (nd kind pos n m name U::X) V:=by
 have q1:=q.alloc (.cells cs 28)
 have h:=q1.fT.split hU
 refine⟨q.z.lit cs hcs hl h11 had hc hn hp (fun e=>e.elim),?_,q1.fv⟩
 subst had hc
 obtain⟨hh,ha⟩:=q1.z.all
 have hsz:us.flatten.length=us.length*11:=by
  clear hcs hl q q1 h ha hU
  induction us with
  |nil=>rfl
  |cons x r ih=>simp only[List.flatten_cons,List.length_append,List.length_cons];rw[ih (fun y hy=>h11 y (List.mem_cons_of_mem _ hy)),h11 x (List.mem_cons_self ..)];omega
 have hrow:=World.ownsRow_lit (base:=0) (e:=28) (size:=11) W cs us.length (Nat.zero_le _) (by unfold maxLen;omega) (by rw[←Array.length_toList,hcs,hsz])
 rw[hcs] at hrow
 exact(Fl.node hrow (fun x hx=>ha x (.inr (List.mem_append.2 (.inl hx)))) h.1).cons h.2
variable {b0 b1 b2 b3:Nat} {c0 c1 c2 c3:Array Value} {ki po n m:Int} {na:ByteArray} {v:Value} {a b c d:Nat} {x y z u:Array Value} {X1 X2:List Nr} {kx px nx mx ky py ny my:Int} {ax ay:ByteArray} {vx vy:Value}
theorem Mf.m1 (q:Mf w rb tb cap t i g W j L ((ah kx px nx mx ax vx).toList::T) nl [] (X1::X) []) (ad:Nat) (had:ad=W.heap.size:=by simp):Mf w rb tb cap t i g (W.alloc (.cells (ah kx px nx mx ax vx) 28)) j L T (sl ad 1) [(ah kx px nx mx ax vx).toList] X [X1]:=Mf.made (us:=[(ah kx px nx mx ax vx).toList]) (U:=[X1]) (T:=T) q _ (by simp) (by simp) (by simp) had rfl rfl
theorem Mf.m2 (q:Mf w rb tb cap t i g W j L ((ah kx px nx mx ax vx).toList::(ah ky py ny my ay vy).toList::T) nl [] (X1::X2::X) []) (ad:Nat) (had:ad=W.heap.size:=by simp):Mf w rb tb cap t i g (W.alloc (.cells (wB kx px nx mx ax vx ky py ny my ay vy) 28)) j L T (sl ad 2) [(ah kx px nx mx ax vx).toList,(ah ky py ny my ay vy).toList] X [X1,X2]:=Mf.made (us:=[(ah kx px nx mx ax vx).toList,(ah ky py ny my ay vy).toList]) (U:=[X1,X2]) (T:=T) q (wB kx px nx mx ax vx ky py ny my ay vy) (by simp) (by simp) (by simp) had rfl rfl
theorem Mf.l1 (q:Mf w rb tb cap t i g W j L ((ah kx px nx mx ax vx).toList::T) kv vs (X1::X) V) (ad:Nat) (ki po n m:Int) (na:ByteArray) (hp:0≤po∧po≤7000) (hn:na.size≤20000:=by decide) (had:ad=W.heap.size:=by simp):Mf w rb tb cap t i g (W.alloc (.cells (ah kx px nx mx ax vx) 28)) j L ((ah ki po n m na (sl ad 1)).toList::T) kv vs (nd ki po n m na [X1]::X) V:=Mf.lit (U:=[X1]) (us:=[(ah kx px nx mx ax vx).toList]) (T:=T) q _ (by simp) (by simp) (by simp) had rfl hn hp rfl
theorem Mf.l2 (q:Mf w rb tb cap t i g W j L ((ah kx px nx mx ax vx).toList::(ah ky py ny my ay vy).toList::T) kv vs (X1::X2::X) V) (ad:Nat) (ki po n m:Int) (na:ByteArray) (hp:0≤po∧po≤7000) (hn:na.size≤20000:=by decide) (had:ad=W.heap.size:=by simp):Mf w rb tb cap t i g (W.alloc (.cells (wB kx px nx mx ax vx ky py ny my ay vy) 28)) j L ((ah ki po n m na (sl ad 2)).toList::T) kv vs (nd ki po n m na [X1,X2]::X) V:=Mf.lit (U:=[X1,X2]) (us:=[(ah kx px nx mx ax vx).toList,(ah ky py ny my ay vy).toList]) (T:=T) q (wB kx px nx mx ax vx ky py ny my ay vy) (by simp) (by simp) (by simp) had rfl hn hp rfl
theorem Mf.at (q:Mf w rb tb cap t i g W j L T kv vs X V) (n:Nat) {b:Nat} {c:Array Value} (hn:L[n]? =some (b,c)):(∀o,W.cell? ⟨b,o,none⟩=c[o]?)∧(∀o,W.frozen? ⟨b,o,none⟩=false)∧b<W.heap.size∧b≠rb:=q.z.at n hn
theorem Mf.ne (q:Mf w rb tb cap t i g W j L T kv vs X V) (n m:Nat) {b b':Nat} {c c':Array Value} (hn:L[n]? =some (b,c)) (hm:L[m]? =some (b',c')) (h:n≠m):b≠b'∧b'≠b:=q.z.ne n m hn hm h
theorem Mf.shape (q:Mf w rb tb cap t i g W j L T kv vs X V):∃ao cp,kv=.slice ao vs.length cp:=q.z.shape
theorem Mf.fa (q:Mf w rb tb cap t i g W j L T kv vs X V) (n:Nat) {b:Nat} {c:Array Value} (hn:L[n]? =some (b,c)):Fc W rb b c:=by
 obtain⟨h1,h2,h3,h4⟩:=q.at n hn
 exact⟨h1,h2,h3,h4,fun e=>h4 e.symm⟩
theorem Mf.f1 (q:Mf w rb tb cap t i g W j ((a,x)::L) T kv vs X V):Fc W rb a x:=q.fa 0 rfl
theorem Mf.f2 (q:Mf w rb tb cap t i g W j ((a,x)::(b,y)::L) T kv vs X V):Fc W rb a x∧Fc W rb b y∧a≠b∧b≠a:=⟨q.fa 0 rfl,q.fa 1 rfl,q.ne 0 1 rfl rfl (by decide)⟩
theorem Mf.f3 (q:Mf w rb tb cap t i g W j ((a,x)::(b,y)::(c,z)::L) T kv vs X V):Fc W rb a x∧Fc W rb b y∧Fc W rb c z∧(a≠b∧b≠a)∧(a≠c∧c≠a)∧b≠c∧c≠b:=⟨q.fa 0 rfl,q.fa 1 rfl,q.fa 2 rfl,q.ne 0 1 rfl rfl (by decide),q.ne 0 2 rfl rfl (by decide),q.ne 1 2 rfl rfl (by decide)⟩
theorem Mf.f4 (q:Mf w rb tb cap t i g W j ((a,x)::(b,y)::(c,z)::(d,u)::L) T kv vs X V):Fc W rb a x∧Fc W rb b y∧Fc W rb c z∧Fc W rb d u∧(a≠b∧b≠a)∧(a≠c∧c≠a)∧(b≠c∧c≠b)∧(a≠d∧d≠a)∧(b≠d∧d≠b)∧c≠d∧d≠c:=⟨q.fa 0 rfl,q.fa 1 rfl,q.fa 2 rfl,q.fa 3 rfl,q.ne 0 1 rfl rfl (by decide),q.ne 0 2 rfl rfl (by decide),q.ne 1 2 rfl rfl (by decide),q.ne 0 3 rfl rfl (by decide),q.ne 1 3 rfl rfl (by decide),q.ne 2 3 rfl rfl (by decide)⟩
theorem Mf.IK (q:Mf w rb tb cap t i g W j ((b,ah ki po n m na v)::L) T kv vs X V) (Y:Int):Mf w rb tb cap t i g (W.setCell ⟨b,0,none⟩ (.int .i64 Y)) j ((b,ah Y po n m na v)::L) T kv vs X V:=q.put 0 rfl 0 (.int .i64 Y)
theorem Mf.pV (q:Mf w rb tb cap t i g W j ((b,ah ki po n m na v)::L) T kv vs X V) (Y:Int):Mf w rb tb cap t i g (W.setCell ⟨b,2,none⟩ (.int .i64 Y)) j ((b,ah ki po Y m na v)::L) T kv vs X V:=q.put 0 rfl 2 (.int .i64 Y)
theorem Mf.Cn (q:Mf w rb tb cap t i g W j ((b,ah ki po n m na v)::L) T kv vs X V) (Y:Int):Mf w rb tb cap t i g (W.setCell ⟨b,3,none⟩ (.int .i64 Y)) j ((b,ah ki po n Y na v)::L) T kv vs X V:=q.put 0 rfl 3 (.int .i64 Y)
theorem Mf.jm (q:Mf w rb tb cap t i g W j ((b,ah ki po n m na v)::L) T kv vs X V) (Y:ByteArray):Mf w rb tb cap t i g (W.setCell ⟨b,4,none⟩ (.string Y)) j ((b,ah ki po n m Y v)::L) T kv vs X V:=q.put 0 rfl 4 (.string Y)
theorem Mf.fE (q:Mf w rb tb cap t i g W j ((b,ah ki po n m na v)::L) T kv vs X V) (Y:Value):Mf w rb tb cap t i g (W.setCell ⟨b,5,none⟩ Y) j ((b,ah ki po n m na Y)::L) T kv vs X V:=q.put 0 rfl 5 Y
theorem Mf.p12 (q:Mf w rb tb cap t i g W j ((b0,c0)::(b,ah ki po n m na v)::L) T kv vs X V) (Y:Int):Mf w rb tb cap t i g (W.setCell ⟨b,2,none⟩ (.int .i64 Y)) j ((b0,c0)::(b,ah ki po Y m na v)::L) T kv vs X V:=q.put 1 rfl 2 (.int .i64 Y)
theorem Mf.p14 (q:Mf w rb tb cap t i g W j ((b0,c0)::(b,ah ki po n m na v)::L) T kv vs X V) (Y:ByteArray):Mf w rb tb cap t i g (W.setCell ⟨b,4,none⟩ (.string Y)) j ((b0,c0)::(b,ah ki po n m Y v)::L) T kv vs X V:=q.put 1 rfl 4 (.string Y)
theorem Mf.Uo (q:Mf w rb tb cap t i g W j ((b0,c0)::(b,ah ki po n m na v)::L) T kv vs X V) (Y:Value):Mf w rb tb cap t i g (W.setCell ⟨b,5,none⟩ Y) j ((b0,c0)::(b,ah ki po n m na Y)::L) T kv vs X V:=q.put 1 rfl 5 Y
theorem Mf.F7 (q:Mf w rb tb cap t i g W j ((b0,c0)::(b,ah ki po n m na v)::L) T kv vs X V) (K P Q R:Int) (Z:ByteArray) (Y:Value):Mf w rb tb cap t i g (bC W b (.int .i64 K) (.int .i64 P) (.int .i64 Q) (.int .i64 R) (.string Z) Y (.int .i64 0) (.int .i64 0) nl nl nl) j ((b0,c0)::(b,ah K P Q R Z Y)::L) T kv vs X V:=q.zw 1 rfl _ _ _ _ _ _ _ _ _ _ _
theorem Mf.p25 (q:Mf w rb tb cap t i g W j ((b0,c0)::(b1,c1)::(b,ah ki po n m na v)::L) T kv vs X V) (Y:Value):Mf w rb tb cap t i g (W.setCell ⟨b,5,none⟩ Y) j ((b0,c0)::(b1,c1)::(b,ah ki po n m na Y)::L) T kv vs X V:=q.put 2 rfl 5 Y
end
end Go.Proofs.YtdplogkmkgekdaaGreatDoor.Pj
namespace Go.Proofs.YtdplogkmkgekdaaGreatDoor
section
variable {α β σ:Type}
def Wr (m:Nat→GP α) (s:Rs) (p:Int):Prop:=∃n0,∀n,n0≤n→∀r,m n s=some r→r.2.k=4∧r.2.a=p
theorem Wr.ev {m:Nat→GP α} {s:Rs} {p:Int} {r:α × Rs} (h:Wr m s p) (h2:Ev m s r):r.2.k=4∧r.2.a=p:=by
 obtain⟨a,ha⟩:=h
 obtain⟨b,hb⟩:=h2
 exact ha (max a b) (Nat.le_max_left _ _) r (hb _ (Nat.le_max_right _ _))
theorem Wr.fst {x:Nat→GP α} {f:Nat→α→GP β} {s:Rs} {p:Int} (h:Wr x s p) (hs:∀n y,Sy (f n y)):Wr (fun n=>bnd (x n) (f n)) s p:=by
 obtain⟨a,ha⟩:=h
 refine⟨a,fun n hn r hr=>?_⟩
 obtain⟨q,h1,h2⟩:=pK hr
 obtain⟨h3,h4⟩:=ha n hn q h1
 have h5:=(hs n q.1 q.2 r h2).2 (by rw[h3];decide)
 exact⟨h5.1.trans h3,h5.2.trans h4⟩
theorem Wr.sq {x:Nat→GP α} {y:Nat→GP β} {s:Rs} {p:Int} (h:Wr x s p) (hs:∀n,Sy (y n)):Wr (fun n=>seq (x n) (y n)) s p:=Wr.fst h (fun n _=>hs n)
theorem Wr.snd {x:Nat→GP α} {f:Nat→α→GP β} {s s2:Rs} {y:α} {p:Int} (h1:Ev x s (y,s2)) (h2:Wr (fun n=>f n y) s2 p):Wr (fun n=>bnd (x n) (f n)) s p:=by
 obtain⟨a,ha⟩:=h1
 obtain⟨b,hb⟩:=h2
 refine⟨max a b,fun n hn r hr=>?_⟩
 have e:=ha n (Nat.le_trans (Nat.le_max_left _ _) hn)
 have hr2:bnd (x n) (f n) s=some r:=hr
 rw[vR e] at hr2
 exact hb n (Nat.le_trans (Nat.le_max_right _ _) hn) r hr2
theorem Wr.o8 {x:Nat→GP α} {y:Nat→GP β} {s s2:Rs} {u:α} {p:Int} (h1:Ev x s (u,s2)) (h2:Wr y s2 p):Wr (fun n=>seq (x n) (y n)) s p:=Wr.snd h1 h2
theorem Wr.yes {b:Bool} {x y:Nat→GP α} {s:Rs} {p:Int} (hb:b=true) (h:Wr x s p):Wr (fun n=>cond b (x n) (y n)) s p:=by subst hb;exact h
theorem Wr.no {b:Bool} {x y:Nat→GP α} {s:Rs} {p:Int} (hb:b=false) (h:Wr y s p):Wr (fun n=>cond b (x n) (y n)) s p:=by subst hb;exact h
theorem Wr.up {m m':Nat→GP α} {s:Rs} {p:Int} (h:Wr m s p) (e:∀n,m' (n+1)=m n):Wr m' s p:=by
 obtain⟨a,ha⟩:=h
 refine⟨a+1,fun n hn=>?_⟩
 obtain⟨n,rfl⟩:∃m,n=m+1:=⟨n - 1,by omega⟩
 rw[e n]
 exact ha n (by omega)
def bZ (b:Nat→σ→GP (Bool × σ)) (x:σ) (s:Rs) (p:Int):Prop:=∃n0,∀n l,n0≤n→n0≤l→∀r,loop (b n) l x s=some r→r.2.k=4∧r.2.a=p
theorem bZ.wr {b:Nat→σ→GP (Bool × σ)} {x:σ} {s:Rs} {p:Int} (h:bZ b x s p):Wr (fun n=>loop (b n) n x) s p:=by
 obtain⟨a,ha⟩:=h
 exact⟨a,fun n hn=>ha n n hn hn⟩
theorem bZ.on {b:Nat→σ→GP (Bool × σ)} {x y:σ} {s s2:Rs} {p:Int} (h1:Ev (fun n=>b n x) s ((true,y),s2)) (h2:bZ b y s2 p):bZ b x s p:=by
 obtain⟨a,ha⟩:=h1
 obtain⟨c,hc⟩:=h2
 refine⟨max a c+1,fun n l hn hl r hr=>?_⟩
 have h3:=Nat.le_max_left a c
 have h4:=Nat.le_max_right a c
 obtain⟨l,rfl⟩:∃m,l=m+1:=⟨l - 1,by omega⟩
 have e1:=ha n (by omega)
 have e2:bnd (b n x) (fun r=>cond r.1 (loop (b n) l r.2) (ret r.2)) s=some r:=hr
 rw[vR e1] at e2
 exact hc n l (by omega) (by omega) r e2
theorem bZ.here {b:Nat→σ→GP (Bool × σ)} {x:σ} {s:Rs} {p:Int} (h1:Wr (fun n=>b n x) s p) (hs:∀n y,Sy (b n y)):bZ b x s p:=by
 obtain⟨a,ha⟩:=h1
 refine⟨a+1,fun n l hn hl r hr=>?_⟩
 obtain⟨l,rfl⟩:∃m,l=m+1:=⟨l - 1,by omega⟩
 have e2:bnd (b n x) (fun r=>cond r.1 (loop (b n) l r.2) (ret r.2)) s=some r:=hr
 obtain⟨q,h1,h2⟩:=pK e2
 obtain⟨h3,h4⟩:=ha n (by omega) q h1
 have h5:=((Sy.cond (Sy.loop (hs n) l q.1.2) Sy.ret:Sy (cond q.1.1 (loop (b n) l q.1.2) (ret q.1.2))) q.2 r h2).2 (by rw[h3];decide)
 exact⟨h5.1.trans h3,h5.2.trans h4⟩
end
section
variable {t:Tk} {i:Nat}
theorem u7:Wr (fun _=>jB t) ⟨i,0,0⟩ (t.pos i):=⟨0,fun _ _ r h=>by
 unfold jB at h
 simp at h
 rw[←h]
 exact⟨rfl,rfl⟩⟩
theorem sF {w:ByteArray} (h:au t i 0 0 w=false):Wr (fun _=>aM t w) ⟨i,0,0⟩ (t.pos i):=Wr.snd (dn h) (Wr.no rfl u7)
theorem LV (h:bf t i 0 0 2=false):Wr (fun _=>bG t) ⟨i,0,0⟩ (t.pos i):=Wr.snd dz (Wr.no h (Wr.sq u7 (fun _=>Sy.ret)))
end
theorem aA {α:Type} {x:GP α} (h:Sy x:=by
 repeat' (first
  |with_reducible exact Sy.ret
  |with_reducible assumption
  |with_reducible exact dM _ _ _
  |exact kr
  |with_reducible apply oU
  |with_reducible apply pY
  |with_reducible apply gM
  |with_reducible apply ku
  |with_reducible apply mX
  |with_reducible apply gF
  |with_reducible apply OH
  |with_reducible apply zi
  |with_reducible apply BA
  |with_reducible apply zk
  |with_reducible apply eY
  |with_reducible apply kC
  |with_reducible apply rV
  |with_reducible apply zm
  |with_reducible apply BD
  |with_reducible apply uH
  |with_reducible apply tF
  |with_reducible apply xY
  |with_reducible apply xK
  |with_reducible apply LA
  |with_reducible apply Ik
  |with_reducible apply Al
  |with_reducible apply DL
  |with_reducible apply wC
  |with_reducible apply Am
  |with_reducible apply zo
  |with_reducible apply LB
  |with_reducible apply Il
  |with_reducible apply LC
  |with_reducible apply Im
  |with_reducible apply LD
  |with_reducible apply Io
  |with_reducible apply FV
  |with_reducible apply Ce
  |with_reducible apply xL
  |with_reducible apply LG
  |with_reducible apply FW
  |with_reducible apply LH
  |with_reducible apply CV
  |with_reducible apply zq
  |with_reducible apply vU
  |with_reducible apply OL
  |with_reducible apply FX
  |with_reducible apply Iq
  |with_reducible apply Ch
  |with_reducible apply Ci
  |with_reducible apply DT
  |with_reducible apply Cj
  |with_reducible apply CW
  |with_reducible apply DU
  |with_reducible apply Ir
  |with_reducible apply Iu
  |with_reducible apply Iw
  |with_reducible apply Ns
  |with_reducible apply Sy.bnd
  |with_reducible apply Sy.seq
  |with_reducible apply Sy.cond
  |with_reducible apply Sy.ite
  |with_reducible apply Sy.loop
  |intro)):Sy x:=h
theorem wrt {α:Type} {m:Nat→GP α} {s:Rs} {p:Int} (h:Wr m s p:=by
 repeat' (first
  |with_reducible assumption
  |with_reducible rfl
  |with_reducible exact Wr.fst ‹_› (fun _ _=>aA)
  |with_reducible exact Wr.sq ‹_› (fun _=>aA)
  |with_reducible exact u7
  |with_reducible exact sF ‹_›
  |with_reducible exact Wr.sq u7 (fun _=>aA)
  |with_reducible exact Wr.sq (sF ‹_›) (fun _=>aA)
  |with_reducible refine Wr.snd bL ?_
  |with_reducible refine Wr.snd aI ?_
  |with_reducible refine Wr.snd dz ?_
  |with_reducible refine Wr.snd bT ?_
  |with_reducible refine Wr.snd Nj ?_
  |with_reducible refine Wr.snd vX ?_
  |with_reducible refine Wr.snd xX ?_
  |with_reducible refine Wr.o8 iJ ?_
  |with_reducible refine Wr.o8 Ev.ret' ?_
  |with_reducible refine Wr.snd Ev.ret' ?_
  |with_reducible refine Wr.snd ‹_› ?_
  |with_reducible refine Wr.o8 ‹_› ?_
  |with_reducible refine Wr.yes rfl ?_
  |with_reducible refine Wr.no rfl ?_
  |with_reducible refine Wr.yes ‹_› ?_
  |with_reducible refine Wr.no ‹_› ?_
  |with_reducible refine Wr.snd (dn ‹_›) ?_
  |with_reducible refine Wr.snd (iV ‹_›) ?_
  |with_reducible refine Wr.o8 (bP ‹_›) ?_
  |with_reducible refine Wr.yes (mW ‹_›) ?_
  |with_reducible refine Wr.yes (dR ‹_› ‹_›) ?_
  |with_reducible refine Wr.yes (dZ ‹_›) ?_
  |with_reducible refine Wr.yes (dZ (mW ‹_›)) ?_
  |with_reducible refine Wr.yes (dZ (dZ (mW ‹_›))) ?_
  |with_reducible refine Wr.yes (dZ (dZ (dZ (mW ‹_›)))) ?_
  |with_reducible refine Wr.yes (dZ (dZ (dZ (dZ ‹_›)))) ?_
  |with_reducible refine Wr.yes (dZ (dZ (dZ ‹_›))) ?_
  |with_reducible refine Wr.yes (dZ (dZ ‹_›)) ?_
  |with_reducible refine Wr.yes (dR ‹_› (uR ‹_›)) ?_
  |with_reducible refine Wr.yes (dR ‹_› (mW ‹_›)) ?_
  |with_reducible refine Wr.yes (dR ‹_› (dZ ‹_›)) ?_
  |with_reducible refine Wr.yes (uR ‹_›) ?_
  |with_reducible refine Wr.yes ((Nl _).trans ‹_›) ?_
  |with_reducible refine Wr.yes (dR rfl ‹_›) ?_
  |with_reducible refine Wr.yes (dR rfl (uR ‹_›)) ?_
  |with_reducible refine Wr.no (jh ‹_› ‹_›) ?_
  |with_reducible refine Wr.no (oL ‹_›) ?_
  |with_reducible refine Wr.no (jf ‹_›) ?_
  |with_reducible refine Wr.no (jh ‹_› (jh ‹_› ‹_›)) ?_
  |with_reducible refine Wr.no (jh ‹_› (jh ‹_› (jh ‹_› (jh ‹_› ‹_›)))) ?_
  |with_reducible refine Wr.no (jf (vT ‹_›)) ?_
  |with_reducible refine Wr.no (jf (jh ‹_› ‹_›)) ?_
  |with_reducible refine Wr.no (vT ‹_›) ?_
  |with_reducible refine Wr.no ((Nl _).trans ‹_›) ?_
  |with_reducible refine Wr.yes (dR ‹_› rfl) ?_
  |with_reducible refine Wr.yes (Bool.true_or _) ?_
  |with_reducible refine Wr.no (jh rfl ‹_›) ?_
  |with_reducible refine Wr.yes (Bz ‹_›) ?_
  |with_reducible refine Wr.no (Ho ‹_›) ?_
  |with_reducible refine Wr.yes (dR rfl (Bz ‹_›)) ?_
  |with_reducible refine Wr.no (jf rfl) ?_
  |with_reducible refine Wr.yes (beq_iff_eq.2 ‹_›) ?_
  |with_reducible refine Wr.yes (Ij.out.trans ‹_›) ?_
  |with_reducible refine Wr.no (Ij.out.trans ‹_›) ?_
  |with_reducible refine Wr.no (Ij.out.trans (Ho ‹_›)) ?_
  |with_reducible refine Wr.yes (Ij.out.trans (Bz ‹_›)) ?_
  |with_reducible refine Wr.yes (dR ‹_› (jL.out.trans ‹_›)) ?_
  |with_reducible refine Wr.no (jf (jL.out.trans ‹_›)) ?_
  |exact bZ.wr ‹_›
  |exact Wr.fst (bZ.wr ‹_›) (fun _ _=>aA)
  |refine Wr.snd (by exact bS) ?_)):Wr m s p:=h
namespace Pj
open Go.RowKit
abbrev iQ (p:Nat):Ending:=.panicked [{v:=.iface 43 (.agg #[.int .i64 p]),recovered:=false}]
def tK {α:Type} (w:World) (rb:Nat) (s:Rs) (m:Nat→GP α) (e:Ending) (w':World):Prop:=∃p:Nat,e=iQ p∧Kp w.heap.size rb w w'∧Wr m s p
def Ht (w:World) (rb tb:Nat) (cap:Cp) (t:Tk) (i:Nat) (must:Prop) (m:Nat→GP (List Nr)) (e:Ending) (w':World):Prop:=
 ∃(kind pos n m':Int) (name:ByteArray) (ko:Option Addr) (kl kc:Nat) (i':Nat),e=.returned (.agg (ah kind pos n m' name (.slice ko kl kc)))∧Nx w rb tb cap t i 0 must w' i' 0 0∧kJ w.heap.size False w' (ah kind pos n m' name (.slice ko kl kc)).toList∧∃x,Fl w' [(ah kind pos n m' name (.slice ko kl kc)).toList] [x]∧Ev m ⟨i,0,0⟩ (x,⟨i',0,0⟩)
def aP (w:World) (rb tb:Nat) (cap:Cp) (t:Tk) (i:Nat) (must:Prop) (m:Nat→GP (List Nr)) (e:Ending) (w':World):Prop:=Ht w rb tb cap t i must m e w'∨tK w rb ⟨i,0,0⟩ m e w'
def adq (w:World) (rb tb:Nat) (cap:Cp) (t:Tk) (i:Nat) (must:Prop) (m:Nat→GP (List (List Nr))) (e:Ending) (w':World):Prop:=
 ∃(ao:Option Addr) (cp:Nat) (vs:List (List Value)) (i':Nat),e=.returned (.slice ao vs.length cp)∧Nx w rb tb cap t i 0 must w' i' 0 0∧Kids w.heap.size False w' (.slice ao vs.length cp) vs∧vs.length≤i' - i∧∃F,Fl w' vs F∧Ev m ⟨i,0,0⟩ (F,⟨i',0,0⟩)
def rO (w:World) (rb tb:Nat) (cap:Cp) (t:Tk) (i:Nat) (must:Prop) (m:Nat→GP (List (List Nr))) (e:Ending) (w':World):Prop:=adq w rb tb cap t i must m e w'∨tK w rb ⟨i,0,0⟩ m e w'
section
variable {α:Type} {w W w':World} {rb tb i j:Nat} {cap:Cp} {t:Tk} {g must:Prop} {L:List (Nat × Array Value)} {T:List (List Value)} {kv:Value} {vs:List (List Value)} {X V:List (List Nr)}
theorem Mf.aR (q:Mf w rb tb cap t i g W j L T kv vs X V) {p:Nat} (hk:Kp W.heap.size rb W w') {m:Nat→GP α} (hw:Wr m ⟨i,0,0⟩ p):tK w rb ⟨i,0,0⟩ m (iQ p) w':=⟨p,rfl,q.st.kp.trans (hk.mono q.st.size),hw⟩
variable {f:Nat} {args:Array Value} {R:Value} {Q:Ending→World→Prop} {mm:Nat→GP (List Nr)} {ml:Nat→GP (List (List Nr))}
theorem Mf.lf (q:Mf w rb tb cap t i g W j L T kv vs X V) (h:Rd W rb tb cap t j 0 0→Calls Tryz.prog f args W fun e w'=>e=.returned R∧Below W.heap.size W w') (K:∀w',Mf w rb tb cap t i g w' j L T kv vs X V→Q (.returned R) w'):Calls Tryz.prog f args W Q:=(h q.st.rd).mono fun e w' p=>p.1▸K w' (q.below p.2)
theorem Mf.nd (q:Mf w rb tb cap t i g W j L T kv vs X V) (h:Rd W rb tb cap t j 0 0→Calls Tryz.prog f args W (aP W rb tb cap t j True mm)) (KB:∀w' p,Kp W.heap.size rb W w'→Wr mm ⟨j,0,0⟩ (p:Nat)→Q (iQ p) w') (K:∀w' (x:Nf) i' (y:List Nr),Hid (j<i')→Ev mm ⟨j,0,0⟩ (y,⟨i',0,0⟩)→Mf w rb tb cap t i True w' i' L (x.t::T) kv vs (y::X) V→Q (.returned (.agg x.a)) w'):Calls Tryz.prog f args W Q:=(h q.st.rd).mono fun e w' p=>by
 rcases p with⟨x1,x2,x3,x4,x5,x6,x7,x8,i',rfl,hx,hn,y,hy,hm⟩|⟨p,rfl,hk,hw⟩
 ·exact K w' ⟨x1,x2,x3,x4,x5,x6,x7,x8⟩ i' y (hx.go trivial rfl) hm (q.D7 hx hn hy)
 ·exact KB w' p hk hw
theorem Mf.nn (q:Mf w rb tb cap t i g W j L T kv vs X V) (h:Rd W rb tb cap t j 0 0→Calls Tryz.prog f args W (aP W rb tb cap t j must mm)) (KB:∀w' p,Kp W.heap.size rb W w'→Wr mm ⟨j,0,0⟩ (p:Nat)→Q (iQ p) w') (K:∀w' (x:Nf) i' (y:List Nr),Hid (j≤i')→Ev mm ⟨j,0,0⟩ (y,⟨i',0,0⟩)→Mf w rb tb cap t i g w' i' L (x.t::T) kv vs (y::X) V→Q (.returned (.agg x.a)) w'):Calls Tryz.prog f args W Q:=(h q.st.rd).mono fun e w' p=>by
 rcases p with⟨x1,x2,x3,x4,x5,x6,x7,x8,i',rfl,hx,hn,y,hy,hm⟩|⟨p,rfl,hk,hw⟩
 ·exact K w' ⟨x1,x2,x3,x4,x5,x6,x7,x8⟩ i' y hx.le hm (q.node hx hn hy)
 ·exact KB w' p hk hw
theorem Mf.li (q:Mf w rb tb cap t i g W j L T nl [] X V) (h:Rd W rb tb cap t j 0 0→Calls Tryz.prog f args W (rO W rb tb cap t j True ml)) (KB:∀w' p,Kp W.heap.size rb W w'→Wr ml ⟨j,0,0⟩ (p:Nat)→Q (iQ p) w') (K:∀w' ao cp vs' i' F,Hid (j<i'∧vs'.length≤i' - j)→Ev ml ⟨j,0,0⟩ (F,⟨i',0,0⟩)→Mf w rb tb cap t i True w' i' L T (.slice ao vs'.length cp) vs' X F→Q (.returned (.slice ao vs'.length cp)) w'):Calls Tryz.prog f args W Q:=(h q.st.rd).mono fun e w' p=>by
 rcases p with⟨ao,cp,vs',i',rfl,hx,hK,hl,F,hF,hm⟩|⟨p,rfl,hk,hw⟩
 ·exact K w' ao cp vs' i' F ⟨hx.go trivial rfl,hl⟩ hm ((q.list hx hK hF).up (fun _=>Nat.lt_of_le_of_lt q.le (hx.go trivial rfl)))
 ·exact KB w' p hk hw
theorem Mf.ln (q:Mf w rb tb cap t i g W j L T nl [] X V) (h:Rd W rb tb cap t j 0 0→Calls Tryz.prog f args W (rO W rb tb cap t j must ml)) (KB:∀w' p,Kp W.heap.size rb W w'→Wr ml ⟨j,0,0⟩ (p:Nat)→Q (iQ p) w') (K:∀w' ao cp vs' i' F,Hid (j≤i'∧vs'.length≤i' - j)→Ev ml ⟨j,0,0⟩ (F,⟨i',0,0⟩)→Mf w rb tb cap t i g w' i' L T (.slice ao vs'.length cp) vs' X F→Q (.returned (.slice ao vs'.length cp)) w'):Calls Tryz.prog f args W Q:=(h q.st.rd).mono fun e w' p=>by
 rcases p with⟨ao,cp,vs',i',rfl,hx,hK,hl,F,hF,hm⟩|⟨p,rfl,hk,hw⟩
 ·exact K w' ao cp vs' i' F ⟨hx.le,hl⟩ hm (q.list hx hK hF)
 ·exact KB w' p hk hw
theorem Mf.wn {sx:ByteArray} (q:Mf w rb tb cap t i g W j L T kv vs X V) (h:Rd W rb tb cap t j 0 0→Calls Tryz.prog f args W fun e w'=>(e=.returned R∧Nx W rb tb cap t j 0 True w' (j+1) 0 0∧au t j 0 0 sx=true)∨(e=iQ (t.pos j)∧Kp W.heap.size rb W w'∧au t j 0 0 sx=false)) (KB:∀w',Kp W.heap.size rb W w'→Wr (fun _=>aM t sx) ⟨j,0,0⟩ (t.pos j:Nat)→Q (iQ (t.pos j)) w') (K:∀w',Ev (fun _=>aM t sx) ⟨j,0,0⟩ ((),⟨j+1,0,0⟩)→Mf w rb tb cap t i True w' (j+1) L T kv vs X V→Q (.returned R) w'):Calls Tryz.prog f args W Q:=(h q.st.rd).mono fun e w' p=>by
 rcases p with⟨rfl,hx,hb⟩|⟨rfl,hk,hb⟩
 ·exact K w' (bP hb) (q.yh hx)
 ·exact KB w' hk (sF hb)
theorem Mf.nm (q:Mf w rb tb cap t i g W j L T kv vs X V) {ms:Nat→GP ByteArray} {B:Nat} (h:Rd W rb tb cap t j 0 0→Calls Tryz.prog f args W fun e w'=>(∃x i',e=.returned (.string x)∧x.size≤B∧Nx W rb tb cap t j 0 True w' i' 0 0∧Ev ms ⟨j,0,0⟩ (x,⟨i',0,0⟩))∨tK W rb ⟨j,0,0⟩ ms e w') (KB:∀w' p,Kp W.heap.size rb W w'→Wr ms ⟨j,0,0⟩ (p:Nat)→Q (iQ p) w') (K:∀w' x i',x.size≤B→Hid (j<i')→Ev ms ⟨j,0,0⟩ (x,⟨i',0,0⟩)→Mf w rb tb cap t i True w' i' L T kv vs X V→Q (.returned (.string x)) w'):Calls Tryz.prog f args W Q:=(h q.st.rd).mono fun e w' p=>by
 rcases p with⟨x,i',rfl,hs,hx,hm⟩|⟨p,rfl,hk,hw⟩
 ·exact K w' x i' hs (hx.go trivial rfl) hm (q.yh hx)
 ·exact KB w' p hk hw
theorem Mf.et {xs:ByteArray} (q:Mf w rb tb cap t i g W j L T kv vs X V) (h:Rd W rb tb cap t j 0 0→Calls Tryz.prog f args W fun e w'=>∃b i',e=.returned (.bool b)∧Bw t xs j 0 b i'∧Rd w' rb tb cap t i' 0 0∧Kp W.heap.size rb W w') (K:∀w' b i',Bw t xs j 0 b i'→Ev (fun _=>aY t xs) ⟨j,0,0⟩ (b,⟨i',0,0⟩)→Mf w rb tb cap t i g w' i' L T kv vs X V→Q (.returned (.bool b)) w'):Calls Tryz.prog f args W Q:=(h q.st.rd).mono fun e w' p=>by
 obtain⟨b,i',rfl,hE,h1,h2⟩:=p
 exact K w' b i' hE (Ii hE) (q.nx (must:=False) ⟨h1,h2,hE.le,fun e=>e,fun x=>x.elim⟩)
end
end Pj
end Go.Proofs.YtdplogkmkgekdaaGreatDoor
