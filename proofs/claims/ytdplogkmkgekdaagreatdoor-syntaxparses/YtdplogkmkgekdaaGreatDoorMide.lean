/- The middle of a call: a row that rests is read. -/
import Derived.Test.YtdplogkmkgekdaaGreatDoorMid
import Derived.Laws.OwnMore
import Derived.Deep.DeepCutAuto
set_option linter.all false
set_option maxRecDepth 100000
set_option maxHeartbeats 4000000
namespace Go.Proofs.YtdplogkmkgekdaaGreatDoor
open Go.RowKit
theorem isNode.ones {S:Nat→Prop} {g:Prop} {w:World}:(h:Nat)→(cs:List Value)→isNode S g h w cs→cs.length=11∧∀u∈cs,u.oneCell'=true
 |0,_,hn=>absurd hn (fun x=>x)
 |h+1,_,⟨kind,pos,n,m,name,kv,vs,h1,h2,h3,h3',h4,h5,h6,h7⟩=>by
  subst h1
  refine⟨rfl,?_⟩
  have hsh:∃ko kl kc,kv=.slice ko kl kc:=by
   rcases h4.2 with⟨x1,_⟩|⟨x,y,z,x1,_⟩
   ·exact⟨_,_,_,x1⟩
   ·exact⟨_,_,_,x1⟩
  obtain⟨ko,kl,kc,rfl⟩:=hsh
  exact cells11_one
theorem flat_ones {us:List (List Value)} (h:∀x∈us,x.length=11∧∀u∈x,u.oneCell'=true):us.flatten.length=us.length*11∧∀u∈us.flatten,u.oneCell'=true:=by
 induction us with
 |nil=>exact⟨rfl,fun u hu=>by simp at hu⟩
 |cons x r ih=>
  obtain⟨h1,h2⟩:=ih (fun y hy=>h y (List.mem_cons_of_mem _ hy))
  obtain⟨h3,h4⟩:=h x (List.mem_cons_self ..)
  refine⟨by simp only[List.flatten_cons,List.length_append,List.length_cons];omega,fun u hu=>?_⟩
  rw[List.flatten_cons,List.mem_append] at hu
  exact hu.elim (h4 u) (h2 u)
section
variable {w W w':World} {rb tb cap i j:Nat} {t:Tk} {k kj aj:Int} {g:Prop} {L:List (Nat × Array Value)} {T:List (List Value)} {kv:Value} {vs:List (List Value)}
theorem wp_run {ops:Array Oper} {rest:List Oper} {o:Oper} {a:Act} {Q:Exit→Act→World→Prop} (hgd:o.guard=none) {s x:Operand} (ho:o.op=.call {callee:=.builtin .append,args:=#[s,x],argTypes:=#[22,22]}) {v xv:Value} (hs:a.eval s=v) (hx:a.eval x=xv) {R:Value→World→Prop}
 (hr:∃v' w',(Builtin.append_ #[22,22] o.type #[v,xv]).run Tryz.prog W=.ok v' w'∧R v' w') (h:∀v' w',R v' w'→wpList Tryz.prog ops Q rest (a.put o.dst v') w'):wpList Tryz.prog ops Q (o::rest) a W:=by
 refine wpList_plain hgd fun K hK=>?_
 obtain⟨v',w',hr,h2⟩:=hr
 unfold Oper.wp execOp
 simp only[ho,resolve,invoke,builtin,Sem.run_bind,Sem.run_pure,Result.andThen_ok,List.map_toArray,List.map_cons,List.map_nil,hs,hx,hr]
 exact hK _ _ (h v' w' h2)
theorem step_run {ops:Array Oper} {o:Oper} {a:Act} {K:Act→World→Prop} {Q:Exit→Act→World→Prop} {E:Prop} (hgd:o.guard=none) {s x:Operand} (ho:o.op=.call {callee:=.builtin .append,args:=#[s,x],argTypes:=#[22,22]}) {v xv:Value} (hs:a.eval s=v) (hx:a.eval x=xv) {R:Value→World→Prop}
 (hr:∃v' w',(Builtin.append_ #[22,22] o.type #[v,xv]).run Tryz.prog W=.ok v' w'∧R v' w') (h:∀v' w',R v' w'→K (a.put o.dst v') w'):if Region.wanted o (yielded ops a.tmps)=true then Oper.wp Tryz.prog o a W K Q else E:=by
 have hw:Region.wanted o (yielded ops a.tmps)=true:=by simp[Region.wanted,hgd]
 rw[if_pos hw]
 obtain⟨v',w',hr,h2⟩:=hr
 unfold Oper.wp execOp
 simp only[ho,resolve,invoke,builtin,Sem.run_bind,Sem.run_pure,Result.andThen_ok,List.map_toArray,List.map_cons,List.map_nil,hs,hx,hr]
 exact h v' w' h2
theorem Mid.newAt (q:Mid w rb tb cap t i k g W j kj aj L T kv vs) {ad:Nat} (had:ad=W.heap.size) (c:Array Value):Mid w rb tb cap t i k g (W.alloc (.cells c 28)) j kj aj ((ad,c)::L) T kv vs:=had▸q.new c
theorem Mid.put' {n b:Nat} {c:Array Value} (q:Mid w rb tb cap t i k g W j kj aj (L.set n (b,c)) T kv vs) (hl:n<L.length) (o:Nat) (u:Value):Mid w rb tb cap t i k g (W.setCell ⟨b,o,none⟩ u) j kj aj (L.set n (b,c.setIfInBounds o u)) T kv vs:=by
 have:=q.put n (b:=b) (c:=c) (by rw[List.getElem?_set,if_pos rfl,if_pos hl]) o u
 rwa [List.set_set] at this
theorem Mid.put11 (q:Mid w rb tb cap t i k g W j kj aj L T kv vs) (n:Nat) {b:Nat} {d0 d1 d2 d3 d4 d5 d6 d7 d8 d9 d10:Value} (hn:L[n]? =some (b,#[d0,d1,d2,d3,d4,d5,d6,d7,d8,d9,d10])) (c0 c1 c2 c3 c4 c5 c6 c7 c8 c9 c10:Value):Mid w rb tb cap t i k g (set11 W b c0 c1 c2 c3 c4 c5 c6 c7 c8 c9 c10) j kj aj (L.set n (b,#[c0,c1,c2,c3,c4,c5,c6,c7,c8,c9,c10])) T kv vs:=by
 have hl:n<L.length:=(List.getElem?_eq_some_iff.1 hn).1
 have q0:Mid w rb tb cap t i k g (W.setCell ⟨b,0,none⟩ c0) j kj aj (L.set n (b,#[c0,d1,d2,d3,d4,d5,d6,d7,d8,d9,d10])) T kv vs:=q.put n hn 0 c0
 have q1:Mid w rb tb cap t i k g ((W.setCell ⟨b,0,none⟩ c0).setCell ⟨b,1,none⟩ c1) j kj aj (L.set n (b,#[c0,c1,d2,d3,d4,d5,d6,d7,d8,d9,d10])) T kv vs:=q0.put' hl 1 c1
 have q2:Mid w rb tb cap t i k g (((W.setCell ⟨b,0,none⟩ c0).setCell ⟨b,1,none⟩ c1).setCell ⟨b,2,none⟩ c2) j kj aj (L.set n (b,#[c0,c1,c2,d3,d4,d5,d6,d7,d8,d9,d10])) T kv vs:=q1.put' hl 2 c2
 have q3:Mid w rb tb cap t i k g ((((W.setCell ⟨b,0,none⟩ c0).setCell ⟨b,1,none⟩ c1).setCell ⟨b,2,none⟩ c2).setCell ⟨b,3,none⟩ c3) j kj aj (L.set n (b,#[c0,c1,c2,c3,d4,d5,d6,d7,d8,d9,d10])) T kv vs:=q2.put' hl 3 c3
 have q4:Mid w rb tb cap t i k g (((((W.setCell ⟨b,0,none⟩ c0).setCell ⟨b,1,none⟩ c1).setCell ⟨b,2,none⟩ c2).setCell ⟨b,3,none⟩ c3).setCell ⟨b,4,none⟩ c4) j kj aj (L.set n (b,#[c0,c1,c2,c3,c4,d5,d6,d7,d8,d9,d10])) T kv vs:=q3.put' hl 4 c4
 have q5:Mid w rb tb cap t i k g ((((((W.setCell ⟨b,0,none⟩ c0).setCell ⟨b,1,none⟩ c1).setCell ⟨b,2,none⟩ c2).setCell ⟨b,3,none⟩ c3).setCell ⟨b,4,none⟩ c4).setCell ⟨b,5,none⟩ c5) j kj aj (L.set n (b,#[c0,c1,c2,c3,c4,c5,d6,d7,d8,d9,d10])) T kv vs:=q4.put' hl 5 c5
 have q6:Mid w rb tb cap t i k g (((((((W.setCell ⟨b,0,none⟩ c0).setCell ⟨b,1,none⟩ c1).setCell ⟨b,2,none⟩ c2).setCell ⟨b,3,none⟩ c3).setCell ⟨b,4,none⟩ c4).setCell ⟨b,5,none⟩ c5).setCell ⟨b,6,none⟩ c6) j kj aj (L.set n (b,#[c0,c1,c2,c3,c4,c5,c6,d7,d8,d9,d10])) T kv vs:=q5.put' hl 6 c6
 have q7:Mid w rb tb cap t i k g ((((((((W.setCell ⟨b,0,none⟩ c0).setCell ⟨b,1,none⟩ c1).setCell ⟨b,2,none⟩ c2).setCell ⟨b,3,none⟩ c3).setCell ⟨b,4,none⟩ c4).setCell ⟨b,5,none⟩ c5).setCell ⟨b,6,none⟩ c6).setCell ⟨b,7,none⟩ c7) j kj aj (L.set n (b,#[c0,c1,c2,c3,c4,c5,c6,c7,d8,d9,d10])) T kv vs:=q6.put' hl 7 c7
 have q8:Mid w rb tb cap t i k g (((((((((W.setCell ⟨b,0,none⟩ c0).setCell ⟨b,1,none⟩ c1).setCell ⟨b,2,none⟩ c2).setCell ⟨b,3,none⟩ c3).setCell ⟨b,4,none⟩ c4).setCell ⟨b,5,none⟩ c5).setCell ⟨b,6,none⟩ c6).setCell ⟨b,7,none⟩ c7).setCell ⟨b,8,none⟩ c8) j kj aj (L.set n (b,#[c0,c1,c2,c3,c4,c5,c6,c7,c8,d9,d10])) T kv vs:=q7.put' hl 8 c8
 have q9:Mid w rb tb cap t i k g ((((((((((W.setCell ⟨b,0,none⟩ c0).setCell ⟨b,1,none⟩ c1).setCell ⟨b,2,none⟩ c2).setCell ⟨b,3,none⟩ c3).setCell ⟨b,4,none⟩ c4).setCell ⟨b,5,none⟩ c5).setCell ⟨b,6,none⟩ c6).setCell ⟨b,7,none⟩ c7).setCell ⟨b,8,none⟩ c8).setCell ⟨b,9,none⟩ c9) j kj aj (L.set n (b,#[c0,c1,c2,c3,c4,c5,c6,c7,c8,c9,d10])) T kv vs:=q8.put' hl 9 c9
 have q10:Mid w rb tb cap t i k g (((((((((((W.setCell ⟨b,0,none⟩ c0).setCell ⟨b,1,none⟩ c1).setCell ⟨b,2,none⟩ c2).setCell ⟨b,3,none⟩ c3).setCell ⟨b,4,none⟩ c4).setCell ⟨b,5,none⟩ c5).setCell ⟨b,6,none⟩ c6).setCell ⟨b,7,none⟩ c7).setCell ⟨b,8,none⟩ c8).setCell ⟨b,9,none⟩ c9).setCell ⟨b,10,none⟩ c10) j kj aj (L.set n (b,#[c0,c1,c2,c3,c4,c5,c6,c7,c8,c9,c10])) T kv vs:=q9.put' hl 10 c10
 exact q10
theorem Mid.swap {a b:List Value} (q:Mid w rb tb cap t i k g W j kj aj L (a::b::T) kv vs):Mid w rb tb cap t i k g W j kj aj L (b::a::T) kv vs:=
 q.sub (fun x hx=>by simp only[List.mem_cons] at hx⊢;rcases hx with h|h|h<;>simp[h])
theorem Mid.lit {us:List (List Value)} (q:Mid w rb tb cap t i k g W j kj aj L (us++T) kv vs) (cs:Array Value) (hcs:cs.toList=us.flatten) (hl:us.length≤20000) (h11:∀x∈us,x.length=11) {ad c:Nat} (had:ad=W.heap.size) (hc:c=us.length)
 {kind pos n m:Int} {name:ByteArray} (hn:name.size≤20000) (hp:0≤pos∧pos≤7000) (hG:kj=0→Gr kind n m name (us.map labOf)):Mid w rb tb cap t i k g (W.alloc (.cells cs 28)) j kj aj L ((nodeC kind pos n m name (.slice (some ⟨ad,0,none⟩) c c)).toList::T) kv vs:=by
 subst had hc
 have q1:=q.alloc (.cells cs 28)
 have hsz:us.flatten.length=us.length*11:=by
  clear hcs hl q q1 hG
  induction us with
  |nil=>rfl
  |cons x r ih=>simp only[List.flatten_cons,List.length_append,List.length_cons];rw[ih (fun y hy=>h11 y (List.mem_cons_of_mem _ hy)),h11 x (List.mem_cons_self ..)];omega
 have hrow:=World.ownsRow_lit (base:=0) (e:=28) (size:=11) W cs us.length (Nat.zero_le _) (by unfold maxLen;omega) (by rw[←Array.length_toList,hcs,hsz])
 rw[hcs] at hrow
 obtain⟨h,ha⟩:=q1.all
 refine⟨q1.st,q1.le,q1.ok,q1.go,q1.blk,q1.nd,q1.row,q1.rown,h+1,fun x hx=>?_⟩
 have hx':x=(nodeC kind pos n m name (.slice (some ⟨W.heap.size,0,none⟩) us.length us.length)).toList∨(x∈vs∨x∈us++T):=by
  rcases hx with hx|hx
  ·exact .inr (.inl hx)
  ·rcases List.mem_cons.1 hx with hx|hx
   ·exact .inl hx
   ·exact .inr (.inr (List.mem_append.2 (.inr hx)))
 rcases hx' with rfl|hx
 ·refine⟨kind,pos,n,m,name,_,us,rfl,hn,hp,hl,hrow,fun b hb=>?_,fun x hx=>ha x (.inr (List.mem_append.2 (.inl hx))),hG⟩
  obtain rfl:W.heap.size=b:=by simpa[Value.ownBlock] using hb
  exact⟨q.st.size,fun e=>absurd (q.lt _ e) (Nat.lt_irrefl _),fun e=>absurd (q.klt _ e) (Nat.lt_irrefl _)⟩
 ·exact isNode.up _ _ (ha x hx)
theorem Mid.leaf (q:Mid w rb tb cap t i k g W j kj aj L T kv vs) {kind pos n m:Int} {name:ByteArray} (hn:name.size≤20000) (hp:0≤pos∧pos≤7000) (hG:kj=0→Gr kind n m name []):Mid w rb tb cap t i k g W j kj aj L ((nodeC kind pos n m name (.slice none 0 0)).toList::T) kv vs:=by
 obtain⟨h,ha⟩:=q.all
 refine⟨q.st,q.le,q.ok,q.go,q.blk,q.nd,q.row,q.rown,h+1,fun x hx=>?_⟩
 have hx':x=(nodeC kind pos n m name (.slice none 0 0)).toList∨(x∈vs∨x∈T):=by
  rcases hx with hx|hx
  ·exact .inr (.inl hx)
  ·exact(List.mem_cons.1 hx).imp (fun x=>x) .inr
 rcases hx' with rfl|hx
 ·exact⟨kind,pos,n,m,name,_,[],rfl,hn,hp,by simp,World.ownsRow_nil _ _ _ _,fun b hb=>by simp[Value.ownBlock] at hb,fun x hx=>by simp at hx,hG⟩
 ·exact isNode.up _ _ (ha x hx)
theorem Mid.rebase (q:Mid w rb tb cap t i k g W j kj aj L T kv vs):Mid w rb tb cap t j kj False W j kj aj L T kv vs:=⟨q.st,Nat.le_refl _,fun e=>e,fun e=>absurd e (fun x=>x),q.blk,q.nd,q.row,q.rown,q.all⟩
theorem Mid.unbase {i':Nat} {k':Int} {g':Prop} (q:Mid w rb tb cap t i k g W j kj aj L T kv vs) (h1:i'≤i) (h2:k=0→k'=0) (h3:g'→k=0→i'<i):Mid w rb tb cap t i' k' g' W j kj aj L T kv vs:=
 ⟨q.st,Nat.le_trans h1 q.le,fun e=>h2 (q.ok e),fun x e=>Nat.lt_of_lt_of_le (h3 x (q.ok e)) q.le,q.blk,q.nd,q.row,q.rown,q.all⟩
theorem Mid.pop {p:Nat × Array Value} (q:Mid w rb tb cap t i k g W j kj aj (p::L) T kv vs):Mid w rb tb cap t i k g W j kj aj L T kv vs:=by
 obtain⟨h,ha⟩:=q.all
 have hnd:=q.nd
 rw[List.map_cons,List.nodup_cons] at hnd
 refine⟨q.st,q.le,q.ok,q.go,fun n x e=>q.blk (n+1) x (by simpa using e),hnd.2,q.row,fun b hb e=>q.rown b hb (by rw[List.map_cons];exact List.mem_cons_of_mem _ e),h,fun x hx=>isNode.weaken (fun b hb=>⟨hb.1,fun e=>hb.2.1 (by rw[List.map_cons];exact List.mem_cons_of_mem _ e),hb.2.2⟩) (fun x=>x) _ _ (ha x hx)⟩
theorem Few.snoc {m:Nat} {c:List Value} {i':Nat} {k':Int} (h:Few m vs j kj) (hk:kj=0) (hj:j<t.len) (hg:t.Good) (hgo:k'=0→j<i'):Few m (vs++[c]) i' k':=by
 have h1:=h.1 hk
 have h2:=hg.few
 refine⟨fun e=>?_,?_⟩
 ·have:=hgo e;simp;omega
 ·simp;omega
end
end Go.Proofs.YtdplogkmkgekdaaGreatDoor
namespace Go.Proofs.YtdplogkmkgekdaaGreatDoor
open Go.RowKit
theorem kind_lt {t:Tk} {i:Nat} (hg:t.Good) (hi:i<t.len) (h:t.kind i≠0):i+1<t.len:=by
 rcases Nat.lt_or_ge (i+1) t.len with h5|h5
 ·exact h5
 ·have e:i=t.len - 1:=by omega
  have hl:=hg.last
  rw[←e] at hl
  exact absurd hl h
section
variable {w W w':World} {rb tb cap i j:Nat} {t:Tk} {k kj aj:Int} {g:Prop} {L:List (Nat × Array Value)} {T:List (List Value)} {kv:Value} {vs:List (List Value)}
theorem Mid.kids (q:Mid w rb tb cap t i k g W j kj aj L T kv vs):Kids w.heap.size (kj=0) W kv vs:=by
 obtain⟨h,ha⟩:=q.all
 exact⟨q.row,h,fun x hx=>isNode.weaken (fun b hb=>⟨hb.1,hb.2.2⟩) (fun x=>x) _ _ (ha x (.inl hx))⟩
theorem Mid.toT (q:Mid w rb tb cap t i k g W j kj aj L T kv vs):Mid w rb tb cap t i k g W j kj aj L (vs++T) (.slice none 0 0) []:=by
 obtain⟨h,ha⟩:=q.all
 refine⟨q.st,q.le,q.ok,q.go,q.blk,q.nd,World.ownsRow_nil _ _ _ _,fun b e=>by simp[Value.ownBlock] at e,h,fun x hx=>isNode.weaken (fun b hb=>⟨hb.1,hb.2.1,by simp[Value.ownBlock]⟩) (fun x=>x) _ _ (ha x ?_)⟩
 rcases hx with hx|hx
 ·simp at hx
 ·exact List.mem_append.1 hx
theorem Mid.first {ao:Option Addr} {cp:Nat} (q:Mid w rb tb cap t i k g W j kj aj L T (.slice ao vs.length cp) vs) (h1:vs.length=1):∃gb,ao=some ⟨gb,0,none⟩∧gb<W.heap.size∧gb≠rb∧gb∉L.map adr∧∃kind pos n m name ko kl kc,vs=[(nodeC kind pos n m name (.slice ko kl kc)).toList]∧∀o,o<11→W.cell? ⟨gb,o,none⟩=(nodeC kind pos n m name (.slice ko kl kc))[o]? :=by
 obtain⟨v,rfl⟩:=List.length_eq_one_iff.1 h1
 have hK:Kids w.heap.size (kj=0) W (.slice ao 1 cp) [v]:=q.kids
 obtain⟨gb,rfl,hgb,hgl,kind,pos,n,m,name,ko,kl,kc,rfl,hcell,_⟩:=hK.first
 have hlb:=q.st.lb
 exact⟨gb,rfl,hgl,by omega,q.rown gb rfl,kind,pos,n,m,name,ko,kl,kc,rfl,hcell⟩
theorem Mid.notin {b:Nat} (q:Mid w rb tb cap t i k g W j kj aj L T kv vs) (hb:b∉L.map adr) (n:Nat) {b':Nat} {c:Array Value} (hn:L[n]? =some (b',c)):b≠b'∧b'≠b:=by
 have _:=q.nd
 have h1:b≠b':=fun e=>hb (List.mem_map.2 ⟨_,List.mem_of_getElem? hn,e▸rfl⟩)
 exact⟨h1,fun e=>h1 e.symm⟩
end
end Go.Proofs.YtdplogkmkgekdaaGreatDoor
namespace Go.Proofs.YtdplogkmkgekdaaGreatDoor
open Go.RowKit
end Go.Proofs.YtdplogkmkgekdaaGreatDoor
namespace Go.Proofs.YtdplogkmkgekdaaGreatDoor
open Go.RowKit
theorem Bd.any2 {N:Nat} {t:Tk} {i:Nat} {k:Int} {r:Nat} (h:Bd (N+1) t i k r) (hk:k=0) (hl:i<t.len):∀i' k' r',(k'=0→i<i')→r'<64→Bd N t i' k' r':=by
 intro i' k' r' h1 h2
 have h3:=h.1 hk
 have h4:1*64≤(t.len - i)*64:=Nat.mul_le_mul_right _ (by omega)
 refine⟨fun e=>?_,by omega⟩
 have:=h1 e
 have h5:(t.len - i'+1)*64≤(t.len - i)*64:=Nat.mul_le_mul_right _ (by omega)
 omega
theorem bd_some (t:Tk) (i:Nat) (k:Int) (r:Nat):Bd ((t.len - i)*64+r) t i k r:=⟨fun _=>Nat.le_refl _,by omega⟩
section
variable {w W w':World} {rb tb cap i j:Nat} {t:Tk} {k kj aj:Int} {g:Prop} {L:List (Nat × Array Value)} {T:List (List Value)} {kv:Value} {vs:List (List Value)}
def Rest (c:Array Value) (vs:List (List Value)) (cp:Nat):Prop:=vs.length≤cp∧cp≤maxLen∧c.size=cp*11∧c.toList.take (vs.length*11)=vs.flatten∧vs.flatten.length=vs.length*11
theorem Mid.park {gb cp:Nat} (q:Mid w rb tb cap t i k g W j kj aj L T (.slice (some ⟨gb,0,none⟩) vs.length cp) vs):∃c,Rest c vs cp∧Mid w rb tb cap t i k g W j kj aj ((gb,c)::L) (vs++T) (.slice none 0 0) []:=by
 obtain⟨h,ha⟩:=q.all
 have hr:=q.row
 rcases hr.2 with⟨h1,_⟩|⟨g',cap',cur,h1,hb,hg,hnc,hcm,hcs,htake⟩
 ·simp at h1
 ·obtain⟨rfl,rfl⟩:gb=g'∧cp=cap':=by simpa using h1
  have hout:gb∉L.map adr:=q.rown gb rfl
  refine⟨cur,⟨hnc,hcm,hcs,htake,hr.1⟩,q.st,q.le,q.ok,q.go,?_,?_,World.ownsRow_nil _ _ _ _,fun b e=>by simp[Value.ownBlock] at e,h,fun x hx=>?_⟩
  ·intro n p e
   cases n with
   |zero=>
    obtain rfl:(gb,cur)=p:=by simpa using e
    exact⟨hb,hg⟩
   |succ n=>exact q.blk n p (by simpa using e)
  ·rw[List.map_cons,List.nodup_cons]
   exact⟨hout,q.nd⟩
  ·refine isNode.weaken (fun b hb=>⟨hb.1,?_,by simp[Value.ownBlock]⟩) (fun x=>x) _ _ (ha x ?_)
   ·rcases hx with hx|hx
    ·simp at hx
    ·exact List.mem_append.1 hx
   ·rw[List.map_cons,List.mem_cons]
    rintro(e|e)
    ·exact hb.2.2 (by rw[e];rfl)
    ·exact hb.2.1 e
theorem Mid.unpark {gb cp:Nat} {c:Array Value} (hR:Rest c vs cp) (q:Mid w rb tb cap t i k g W j kj aj ((gb,c)::L) (vs++T) (.slice none 0 0) []):Mid w rb tb cap t i k g W j kj aj L T (.slice (some ⟨gb,0,none⟩) vs.length cp) vs:=by
 obtain⟨h,ha⟩:=q.all
 obtain⟨h1,h2,h3,h4,h5⟩:=hR
 have hnd:=q.nd
 rw[List.map_cons,List.nodup_cons] at hnd
 have hb:=q.blk 0 (gb,c) rfl
 refine⟨q.st,q.le,q.ok,q.go,fun n x e=>q.blk (n+1) x (by simpa using e),hnd.2,⟨h5,.inr ⟨gb,cp,c,rfl,hb.1,hb.2,h1,h2,h3,h4⟩⟩,?_,h,fun x hx=>?_⟩
 ·intro b e
  obtain rfl:gb=b:=by simpa[Value.ownBlock] using e
  exact hnd.1
 ·refine isNode.weaken (fun b hb=>⟨hb.1,fun e=>hb.2.1 (by rw[List.map_cons];exact List.mem_cons_of_mem _ e),fun e=>hb.2.1 ?_⟩) (fun x=>x) _ _ (ha x (.inr (List.mem_append.2 hx)))
  obtain rfl:gb=b:=by simpa[Value.ownBlock] using e
  rw[List.map_cons]
  exact List.mem_cons_self ..
theorem lab_ne {kind n m:Int} {a:ByteArray} {l:Nat} (h:(kind≠4∧kind≠5∧kind≠8∧kind≠12)∧kind<100):lab kind n m a l=kind:=by
 unfold lab
 rw[if_neg h.1.2.2.1,if_neg h.1.1,if_neg h.1.2.1,if_neg h.1.2.2.2,if_neg (by omega)]
theorem name_size {s:ByteArray} (h:nameOK s):s.size≠0:=fun e=>h.1 (by
 have:s.data=#[]:=Array.eq_empty_of_size_eq_zero e
 obtain⟨d⟩:=s
 subst this
 simp[Lib.toList_data])
theorem lab_param {po n m:Int} {s:ByteArray} {v:Value} (h:nameOK s):labOf (nodeC 12 po n m s v).toList=12:=by
 show lab 12 n m s (lenOf v)=12
 unfold lab
 rw[if_neg (by decide),if_neg (by decide),if_neg (by decide),if_pos rfl,if_neg (name_size h)]
theorem lab_field {po n m:Int} {s:ByteArray} {v:Value} (h:nameOK s):labOf (nodeC 5 po n m s v).toList=105:=by
 show lab 5 n m s (lenOf v)=105
 unfold lab
 rw[if_neg (by decide),if_neg (by decide),if_pos rfl,if_neg (name_size h)]
theorem lab_variant {po n m:Int} {s:ByteArray} {v:Value} (h:nameOK s):labOf (nodeC 4 po n m s v).toList=4:=by
 show lab 4 n m s (lenOf v)=4
 unfold lab
 rw[if_neg (by decide),if_pos rfl,if_neg (name_size h)]
theorem noK_lab {ki po n m:Int} {na:ByteArray} {v:Value} (h:noK ki):noK (labOf (nodeC ki po n m na v).toList):=by
 show noK (lab ki n m na (lenOf v))
 rw[lab_ne (by unfold noK at h;omega)]
 exact h
end
end Go.Proofs.YtdplogkmkgekdaaGreatDoor
namespace Go.Proofs.YtdplogkmkgekdaaGreatDoor
open Go.RowKit
section
variable {w W w':World} {rb tb cap i j:Nat} {t:Tk} {k kj aj:Int} {g:Prop} {L:List (Nat × Array Value)} {T:List (List Value)} {kv:Value} {vs:List (List Value)}
theorem Mid.swapL {a b:Nat × Array Value} (q:Mid w rb tb cap t i k g W j kj aj (a::b::L) T kv vs):Mid w rb tb cap t i k g W j kj aj (b::a::L) T kv vs:=by
 obtain⟨h,ha⟩:=q.all
 have hp:∀x,x∈(b::a::L).map adr↔x∈(a::b::L).map adr:=by
  intro x
  simp only[List.map_cons,List.mem_cons]
  constructor<;>(rintro(e|e|e)<;>simp[e])
 refine⟨q.st,q.le,q.ok,q.go,?_,?_,q.row,fun x hx e=>q.rown x hx ((hp x).1 e),h,fun x hx=>isNode.weaken (fun y hy=>⟨hy.1,fun e=>hy.2.1 ((hp y).1 e),hy.2.2⟩) (fun x=>x) _ _ (ha x hx)⟩
 ·intro n p e
  match n,e with
  |0,e=>exact q.blk 1 p e
  |1,e=>exact q.blk 0 p e
  |n+2,e=>exact q.blk (n+2) p e
 ·have hnd:=q.nd
  simp only[List.map_cons,List.nodup_cons,List.mem_cons,not_or] at hnd⊢
  exact⟨⟨fun e=>hnd.1.1 e.symm,hnd.2.1⟩,hnd.1.2,hnd.2.2⟩
theorem Mid.shapeS (q:Mid w rb tb cap t i k g W j kj aj L T kv vs) (h:1≤vs.length):∃gb cp,kv=.slice (some ⟨gb,0,none⟩) vs.length cp:=by
 rcases q.row.2 with⟨_,h2⟩|⟨b,cap,cur,h1,_⟩
 ·omega
 ·exact⟨_,_,h1⟩
theorem Mid.shapeT {ao:Option Addr} {cp:Nat} (q:Mid w rb tb cap t i k g W j kj aj L T (.slice ao vs.length cp) vs) (h:1≤vs.length):∃gb,ao=some ⟨gb,0,none⟩:=by
 obtain⟨gb,cp',e⟩:=q.shapeS h
 exact⟨gb,by simp at e;exact e.1⟩
end
end Go.Proofs.YtdplogkmkgekdaaGreatDoor
namespace Go.Proofs.YtdplogkmkgekdaaGreatDoor
open Go.RowKit
theorem flat_get {us:List (List Value)} (h11:∀x∈us,x.length=11):∀{idx:Nat} {x:List Value},us[idx]? =some x→∀o,o<11→us.flatten[idx*11+o]? =x[o]? :=by
 induction us with
 |nil=>intro idx x h;simp at h
 |cons y r ih=>
  intro idx x h o ho
  have hy:=h11 y (List.mem_cons_self ..)
  rw[List.flatten_cons]
  cases idx with
  |zero=>
   obtain rfl:y=x:=by simpa using h
   rw[List.getElem?_append_left (by omega)]
   congr 1
   omega
  |succ idx=>
   rw[List.getElem?_append_right (by omega),hy]
   have:=ih (fun z hz=>h11 z (List.mem_cons_of_mem _ hz)) (idx:=idx) (x:=x) (by simpa using h) o ho
   rw[←this]
   congr 1
   omega
section
variable {w W w':World} {rb tb cap i j:Nat} {t:Tk} {k kj aj:Int} {g:Prop} {L:List (Nat × Array Value)} {T:List (List Value)} {kv:Value} {vs:List (List Value)}
theorem Mid.look (q:Mid w rb tb cap t i k g W j kj aj L T kv vs) {x:List Value} (hx:x∈T):∃kind pos n m name ko kl kc,x=(nodeC kind pos n m name (.slice ko kl kc)).toList∧(0≤pos∧pos≤7000):=by
 obtain⟨h,ha⟩:=q.all
 have hn:=ha x (.inr hx)
 cases h with
 |zero=>exact absurd hn (fun x=>x)
 |succ h=>
  obtain⟨kind,pos,n,m,name,kv',vs',e1,e2,e3,e3',e4,e5,e6,e7⟩:=hn
  have hsh:∃ko kl kc,kv'=.slice ko kl kc:=by
   rcases e4.2 with⟨x1,_⟩|⟨x,y,z,x1,_⟩
   ·exact⟨_,_,_,x1⟩
   ·exact⟨_,_,_,x1⟩
  obtain⟨ko,kl,kc,rfl⟩:=hsh
  exact⟨kind,pos,n,m,name,ko,kl,kc,e1,e3⟩
theorem Mid.nth {gb cp:Nat} {c:Array Value} {us:List (List Value)} (q:Mid w rb tb cap t i k g W j kj aj L T kv vs) (hR:Rest c us cp) (n:Nat) (hn:L[n]? =some (gb,c)) (hT:∀x∈us,x∈T) {idx:Nat} (hi:idx<us.length):
 ∃kind pos n m name ko kl kc,us[idx]? =some (nodeC kind pos n m name (.slice ko kl kc)).toList∧(0≤pos∧pos≤7000)∧∀o,o<11→W.cell? ⟨gb,idx*11+o,none⟩=(nodeC kind pos n m name (.slice ko kl kc))[o]? :=by
 have hx:us[idx]? =some us[idx]:=List.getElem?_eq_getElem hi
 have hm:us[idx]∈us:=List.getElem_mem hi
 obtain⟨kind,pos,n',m,name,ko,kl,kc,e,hp⟩:=q.look (hT _ hm)
 refine⟨kind,pos,n',m,name,ko,kl,kc,by rw[hx,e],hp,fun o ho=>?_⟩
 obtain⟨h,ha⟩:=q.all
 have h11:∀x∈us,x.length=11:=fun x hx=>(isNode.ones _ _ (ha x (.inr (hT x hx)))).1
 have hg:=flat_get h11 hx o ho
 have hB:=(q.blk n _ hn).2
 have hlt:idx*11+o<us.length*11:=by omega
 have e2:W.cell? ⟨gb,idx*11+o,none⟩=c[idx*11+o]? :=hB.cell _
 rw[e2]
 have e3:(c.toList.take (us.length*11))[idx*11+o]? =c[idx*11+o]? :=by rw[List.getElem?_take,if_pos hlt];simp
 rw[←e3,hR.2.2.2.1,hg,e]
 simp
end
end Go.Proofs.YtdplogkmkgekdaaGreatDoor
