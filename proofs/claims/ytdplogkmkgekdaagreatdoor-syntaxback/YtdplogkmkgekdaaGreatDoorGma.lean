/- The grammar: what the document's reader does, as Lean functions of the tokens. A tree is the list of its nodes, each ahead of its kids. -/
import Derived.Test.YtdplogkmkgekdaaGreatDoorTypes
import Derived.Deep.Light
import Derived.Deep.RegionWith
import Derived.Deep.RegionLaw
import Derived.Laws.OwnMore
import Derived.Deep.DeepCutAuto
set_option linter.all false
set_option maxRecDepth 100000
set_option maxHeartbeats 4000000
namespace Go.Proofs.YtdplogkmkgekdaaGreatDoor
open Go.RowKit
theorem Ni (ns:List (List UInt8)) (m:List UInt8) (h:ns≠[]):tq (ns++[m])=tq ns++58::58::m:=by
 induction ns with
 |nil=>exact absurd rfl h
 |cons a r ih=>
  cases r with
  |nil=>rfl
  |cons b r=>show a++58::58::tq (b::r++[m])=(a++58::58::tq (b::r))++_;rw[ih (by simp)];simp
theorem Ca (a b:ByteArray):(a++b).toList=a.toList++b.toList:=by
 rw[Lib.toList_data,Lib.toList_data,Lib.toList_data]
 simp[ByteArray.data_append]
theorem uQ (a b:ByteArray):(a++b).size=a.size+b.size:=by simp
def bW (w:World) (b:Nat) (c:Array Value):Prop:=w.heap[b]? =some (.cells c 28 (0,0))
theorem bW.cell {w:World} {b:Nat} {c:Array Value} (h:bW w b c) (o:Nat):w.cell? ⟨b,o,none⟩=c[o]? :=cell_of_row w b o c 28 (0,0) h
theorem bW.fz {w:World} {b:Nat} {c:Array Value} (h:bW w b c) (o:Nat):w.frozen? ⟨b,o,none⟩=false:=frozen_of_row w b o c 28 h
theorem bW.lt {w:World} {b:Nat} {c:Array Value} (h:bW w b c):b<w.heap.size:=(Array.getElem?_eq_some_iff.1 h).1
theorem bW.new (w:World) (c:Array Value):bW (w.alloc (.cells c 28)) w.heap.size c:=heap_alloc_new w _
theorem bW.alloc {w:World} {b:Nat} {c:Array Value} (h:bW w b c) (o:Obj):bW (w.alloc o) b c:=(Below.heap_alloc _ _ _ h.lt).trans h
theorem bW.below {w w':World} {b:Nat} {c:Array Value} (h:bW w b c) (hb:Below w.heap.size w w'):bW w' b c:=(hb.block b h.lt).trans h
theorem bW.kp {w w':World} {b rb:Nat} {c:Array Value} (h:bW w b c) (hk:Kp w.heap.size rb w w') (hn:b≠rb):bW w' b c:=(hk.block b h.lt hn).trans h
theorem bW.grown {w w':World} {b:Nat} {c:Array Value} {row:Option Nat} (h:bW w b c) (hg:w.grownBy w' row) (hn:some b≠row):bW w' b c:=(hg.block b h.lt hn).trans h
theorem bW.other {w:World} {b:Nat} {c:Array Value} (h:bW w b c) {p:Addr} (hn:b≠p.block) (u:Value):bW (w.setCell p u) b c:=(Below.heap_setCell _ _ _ _ hn).trans h
theorem bW.set {w:World} {b:Nat} {c:Array Value} (h:bW w b c) (o:Nat) (u:Value):bW (w.setCell ⟨b,o,none⟩ u) b (c.setIfInBounds o u):=heap_setCell_same w b o c 28 u h
theorem bW.drew {w:World} {b:Nat} {c:Array Value} (h:bW w b c):bW w.drew b c:=h
theorem Same.bC {S:Nat→Prop} {w:World} {b:Nat} (h:¬S b) (c0 c1 c2 c3 c4 c5 c6 c7 c8 c9 c10:Value):Same S w (bC w b c0 c1 c2 c3 c4 c5 c6 c7 c8 c9 c10):=
 (((((((((((Same.setCell w ⟨b,0,none⟩ c0 h).trans (Same.setCell _ ⟨b,1,none⟩ c1 h) (by simp)).trans (Same.setCell _ ⟨b,2,none⟩ c2 h) (by simp)).trans (Same.setCell _ ⟨b,3,none⟩ c3 h) (by simp)).trans (Same.setCell _ ⟨b,4,none⟩ c4 h) (by simp)).trans (Same.setCell _ ⟨b,5,none⟩ c5 h) (by simp)).trans (Same.setCell _ ⟨b,6,none⟩ c6 h) (by simp)).trans (Same.setCell _ ⟨b,7,none⟩ c7 h) (by simp)).trans (Same.setCell _ ⟨b,8,none⟩ c8 h) (by simp)).trans (Same.setCell _ ⟨b,9,none⟩ c9 h) (by simp)).trans (Same.setCell _ ⟨b,10,none⟩ c10 h) (by simp))
section
variable {w W:World} {rb tb cap j:Nat} {t:Tk} {kj aj:Int}
end
abbrev aJ:Array Value:=ah 0 0 0 0 ⟨#[]⟩ (.slice none 0 0)
section
variable {w W w':World} {rb tb cap j:Nat} {t:Tk} {kj aj:Int} {b:Nat} {c:Array Value}
end
theorem Kids.first {base:Nat} {g:Prop} {w:World} {ao:Option Addr} {cp:Nat} {v:List Value} (h:Kids base g w (.slice ao 1 cp) [v]):∃gb,ao=some ⟨gb,0,none⟩∧base≤gb∧gb<w.heap.size∧∃kind pos n m name ko kl kc,v=(ah kind pos n m name (.slice ko kl kc)).toList∧(∀o,o<11→w.cell? ⟨gb,o,none⟩=(ah kind pos n m name (.slice ko kl kc))[o]?)∧kJ base g w v:=by
 obtain⟨hr,hh,ha⟩:=h
 have hv:=ha v (by simp)
 rcases hr.2 with⟨h1,h2⟩|⟨gb,cap,cur,h1,hb,hg,hnc,hcm,hcs,htake⟩
 ·simp at h2
 ·simp only[Value.slice.injEq] at h1
  obtain⟨rfl,_,rfl⟩:=h1
  refine⟨gb,rfl,hb,(Array.getElem?_eq_some_iff.1 hg).1,?_⟩
  cases hh with
  |zero=>exact absurd hv (fun x=>x)
  |succ hh=>
   obtain⟨kind,pos,n,m,name,kv,vs,e1,e2,e3,e3',e4,e5,e6,e7⟩:=hv
   have hsh:∃ko kl kc,kv=.slice ko kl kc:=by
    rcases e4.2 with⟨x1,_⟩|⟨x,y,z,x1,_⟩
    ·exact⟨_,_,_,x1⟩
    ·exact⟨_,_,_,x1⟩
   obtain⟨ko,kl,kc,rfl⟩:=hsh
   refine⟨kind,pos,n,m,name,ko,kl,kc,e1,fun o ho=>?_,hh+1,kind,pos,n,m,name,.slice ko kl kc,vs,e1,e2,e3,e3',e4,fun b hb=>(e5 b hb).1,fun x hx=>isNode.weaken (fun b hb=>hb.1) (fun x=>x) _ _ (e6 x hx),e7⟩
   rw[cell_of_row w gb o cur 28 (0,0) hg]
   have e:cur.toList.take 11=(ah kind pos n m name (.slice ko kl kc)).toList:=by
    have:=htake
    simp only[List.length_cons,List.length_nil,List.flatten_cons,List.flatten_nil,List.append_nil] at this
    rw[←e1]
    exact this
   have e2:(cur.toList.take 11)[o]? =cur[o]? :=by rw[List.getElem?_take,if_pos ho];simp
   rw[←e2,e]
   simp
theorem bW.bC {w:World} {b:Nat} {d0 d1 d2 d3 d4 d5 d6 d7 d8 d9 d10:Value} (h:bW w b #[d0,d1,d2,d3,d4,d5,d6,d7,d8,d9,d10]) (c0 c1 c2 c3 c4 c5 c6 c7 c8 c9 c10:Value):bW (Go.Proofs.YtdplogkmkgekdaaGreatDoor.bC w b c0 c1 c2 c3 c4 c5 c6 c7 c8 c9 c10) b #[c0,c1,c2,c3,c4,c5,c6,c7,c8,c9,c10]:=by
 have h0:bW (w.setCell ⟨b,0,none⟩ c0) b #[c0,d1,d2,d3,d4,d5,d6,d7,d8,d9,d10]:=bW.set h 0 c0
 have h1:bW ((w.setCell ⟨b,0,none⟩ c0).setCell ⟨b,1,none⟩ c1) b #[c0,c1,d2,d3,d4,d5,d6,d7,d8,d9,d10]:=bW.set h0 1 c1
 have h2:bW (((w.setCell ⟨b,0,none⟩ c0).setCell ⟨b,1,none⟩ c1).setCell ⟨b,2,none⟩ c2) b #[c0,c1,c2,d3,d4,d5,d6,d7,d8,d9,d10]:=bW.set h1 2 c2
 have h3:bW ((((w.setCell ⟨b,0,none⟩ c0).setCell ⟨b,1,none⟩ c1).setCell ⟨b,2,none⟩ c2).setCell ⟨b,3,none⟩ c3) b #[c0,c1,c2,c3,d4,d5,d6,d7,d8,d9,d10]:=bW.set h2 3 c3
 have h4:bW (((((w.setCell ⟨b,0,none⟩ c0).setCell ⟨b,1,none⟩ c1).setCell ⟨b,2,none⟩ c2).setCell ⟨b,3,none⟩ c3).setCell ⟨b,4,none⟩ c4) b #[c0,c1,c2,c3,c4,d5,d6,d7,d8,d9,d10]:=bW.set h3 4 c4
 have h5:bW ((((((w.setCell ⟨b,0,none⟩ c0).setCell ⟨b,1,none⟩ c1).setCell ⟨b,2,none⟩ c2).setCell ⟨b,3,none⟩ c3).setCell ⟨b,4,none⟩ c4).setCell ⟨b,5,none⟩ c5) b #[c0,c1,c2,c3,c4,c5,d6,d7,d8,d9,d10]:=bW.set h4 5 c5
 have h6:bW (((((((w.setCell ⟨b,0,none⟩ c0).setCell ⟨b,1,none⟩ c1).setCell ⟨b,2,none⟩ c2).setCell ⟨b,3,none⟩ c3).setCell ⟨b,4,none⟩ c4).setCell ⟨b,5,none⟩ c5).setCell ⟨b,6,none⟩ c6) b #[c0,c1,c2,c3,c4,c5,c6,d7,d8,d9,d10]:=bW.set h5 6 c6
 have h7:bW ((((((((w.setCell ⟨b,0,none⟩ c0).setCell ⟨b,1,none⟩ c1).setCell ⟨b,2,none⟩ c2).setCell ⟨b,3,none⟩ c3).setCell ⟨b,4,none⟩ c4).setCell ⟨b,5,none⟩ c5).setCell ⟨b,6,none⟩ c6).setCell ⟨b,7,none⟩ c7) b #[c0,c1,c2,c3,c4,c5,c6,c7,d8,d9,d10]:=bW.set h6 7 c7
 have h8:bW (((((((((w.setCell ⟨b,0,none⟩ c0).setCell ⟨b,1,none⟩ c1).setCell ⟨b,2,none⟩ c2).setCell ⟨b,3,none⟩ c3).setCell ⟨b,4,none⟩ c4).setCell ⟨b,5,none⟩ c5).setCell ⟨b,6,none⟩ c6).setCell ⟨b,7,none⟩ c7).setCell ⟨b,8,none⟩ c8) b #[c0,c1,c2,c3,c4,c5,c6,c7,c8,d9,d10]:=bW.set h7 8 c8
 have h9:bW ((((((((((w.setCell ⟨b,0,none⟩ c0).setCell ⟨b,1,none⟩ c1).setCell ⟨b,2,none⟩ c2).setCell ⟨b,3,none⟩ c3).setCell ⟨b,4,none⟩ c4).setCell ⟨b,5,none⟩ c5).setCell ⟨b,6,none⟩ c6).setCell ⟨b,7,none⟩ c7).setCell ⟨b,8,none⟩ c8).setCell ⟨b,9,none⟩ c9) b #[c0,c1,c2,c3,c4,c5,c6,c7,c8,c9,d10]:=bW.set h8 9 c9
 have h10:bW (((((((((((w.setCell ⟨b,0,none⟩ c0).setCell ⟨b,1,none⟩ c1).setCell ⟨b,2,none⟩ c2).setCell ⟨b,3,none⟩ c3).setCell ⟨b,4,none⟩ c4).setCell ⟨b,5,none⟩ c5).setCell ⟨b,6,none⟩ c6).setCell ⟨b,7,none⟩ c7).setCell ⟨b,8,none⟩ c8).setCell ⟨b,9,none⟩ c9).setCell ⟨b,10,none⟩ c10) b #[c0,c1,c2,c3,c4,c5,c6,c7,c8,c9,c10]:=bW.set h9 10 c10
 exact h10
theorem wz {fn:Func} {r:Nat} (hf:fn.results=#[.cell r 28]) {tmps:Array Value} {b:Nat} (ht:tmps.getD r undef=.pointer (some ⟨b,0,none⟩)) {W:World} {c0 c1 c2 c3 c4 c5 c6 c7 c8 c9 c10:Value} (hB:bW W b #[c0,c1,c2,c3,c4,c5,c6,c7,c8,c9,c10]):
 (results fn tmps).run Tryz.prog W=.ok (.agg #[c0,c1,c2,c3,c4,c5,c6,c7,c8,c9,c10]) W:=by
 have y:=hB.cell
 have ht':tmps[r]?.getD undef=.pointer (some ⟨b,0,none⟩):=by simpa using ht
 simp[results,hf,ht',go_sem,y]
theorem isNode.low {S:Nat→Prop} {g:Prop} {w:World}:(h:Nat)→(cs:List Value)→isNode S g h w cs→isNode (fun b=>S b∧b<w.heap.size) g h w cs
 |0,_,hn=>hn
 |h+1,_,⟨kind,pos,n,m,name,kv,vs,h1,h2,h3,h3',h4,h5,h6,h7⟩=>
  ⟨kind,pos,n,m,name,kv,vs,h1,h2,h3,h3',h4,fun b hb=>⟨h5 b hb,(h4.lt b hb).2⟩,fun x hx=>isNode.low h x (h6 x hx),h7⟩
abbrev wB (ac7 aeH an am:Int) (ac8:ByteArray) (akv:Value) (ac9 bpos bn bm:Int) (ada:ByteArray) (bkv:Value):Array Value:=#[.int .i64 ac7,.int .i64 aeH,.int .i64 an,.int .i64 am,.string ac8,akv,.int .i64 0,.int .i64 0,.slice none 0 0,.slice none 0 0,.slice none 0 0,.int .i64 ac9,.int .i64 bpos,.int .i64 bn,.int .i64 bm,.string ada,bkv,.int .i64 0,.int .i64 0,.slice none 0 0,.slice none 0 0,.slice none 0 0]
def Out (w:World) (A:List Nat) (kv:Value) (b:Nat):Prop:=w.heap.size≤b∧b∉A∧kv.ownBlock≠some b
def oH (p:Nat × Array Value):Nat:=p.1
section
variable {w W w':World} {rb tb cap i j:Nat} {t:Tk} {k kj aj:Int} {g:Prop} {L:List (Nat × Array Value)} {T:List (List Value)} {kv:Value} {vs:List (List Value)}
end
theorem isNode.ones {S:Nat→Prop} {g:Prop} {w:World}:(h:Nat)→(cs:List Value)→isNode S g h w cs→cs.length=11∧∀u∈cs,u.oneCell'=true
 |0,_,hn=>absurd hn (fun x=>x)
 |h+1,_,⟨kind,pos,n,m,name,kv,vs,h1,h2,h3,h3',h4,h5,h6,h7⟩=>by
  subst h1
  refine⟨rfl,?_⟩
  have hsh:∃ko kl kc,kv=.slice ko kl kc:=by
   rcases h4.2 with⟨x1,_⟩|⟨x,y,z,x1,_⟩
   ·exact⟨_,_,_,x1⟩
   ·exact⟨_,_,_,x1⟩
  obtain⟨ko,kl,kc,rfl⟩:=hsh
  exact KV
theorem FT {us:List (List Value)} (h:∀x∈us,x.length=11∧∀u∈x,u.oneCell'=true):us.flatten.length=us.length*11∧∀u∈us.flatten,u.oneCell'=true:=by
 induction us with
 |nil=>exact⟨rfl,fun u hu=>by simp at hu⟩
 |cons x r ih=>
  obtain⟨h1,h2⟩:=ih (fun y hy=>h y (List.mem_cons_of_mem _ hy))
  obtain⟨h3,h4⟩:=h x (List.mem_cons_self ..)
  refine⟨by simp only[List.flatten_cons,List.length_append,List.length_cons];omega,fun u hu=>?_⟩
  rw[List.flatten_cons,List.mem_append] at hu
  exact hu.elim (h4 u) (h2 u)
section
variable {w W w':World} {rb tb cap i j:Nat} {t:Tk} {k kj aj:Int} {g:Prop} {L:List (Nat × Array Value)} {T:List (List Value)} {kv:Value} {vs:List (List Value)}
theorem OC {ops:Array Oper} {rest:List Oper} {o:Oper} {a:Act} {Q:Exit→Act→World→Prop} (hgd:o.guard=none) {s x:Operand} (ho:o.op=.call {callee:=.builtin .append,args:=#[s,x],argTypes:=#[22,22]}) {v xv:Value} (hs:a.eval s=v) (hx:a.eval x=xv) {R:Value→World→Prop}
 (hr:∃v' w',(Builtin.append_ #[22,22] o.type #[v,xv]).run Tryz.prog W=.ok v' w'∧R v' w') (h:∀v' w',R v' w'→wpList Tryz.prog ops Q rest (a.put o.dst v') w'):wpList Tryz.prog ops Q (o::rest) a W:=by
 refine wpList_plain hgd fun K hK=>?_
 obtain⟨v',w',hr,h2⟩:=hr
 unfold Oper.wp execOp
 simp only[ho,resolve,invoke,builtin,Sem.run_bind,Sem.run_pure,Result.andThen_ok,List.map_toArray,List.map_cons,List.map_nil,hs,hx,hr]
 exact hK _ _ (h v' w' h2)
theorem CQ {ops:Array Oper} {o:Oper} {a:Act} {K:Act→World→Prop} {Q:Exit→Act→World→Prop} {E:Prop} (hgd:o.guard=none) {s x:Operand} (ho:o.op=.call {callee:=.builtin .append,args:=#[s,x],argTypes:=#[22,22]}) {v xv:Value} (hs:a.eval s=v) (hx:a.eval x=xv) {R:Value→World→Prop}
 (hr:∃v' w',(Builtin.append_ #[22,22] o.type #[v,xv]).run Tryz.prog W=.ok v' w'∧R v' w') (h:∀v' w',R v' w'→K (a.put o.dst v') w'):if Region.wanted o (yielded ops a.tmps)=true then Oper.wp Tryz.prog o a W K Q else E:=by
 have hw:Region.wanted o (yielded ops a.tmps)=true:=by simp[Region.wanted,hgd]
 rw[if_pos hw]
 obtain⟨v',w',hr,h2⟩:=hr
 unfold Oper.wp execOp
 simp only[ho,resolve,invoke,builtin,Sem.run_bind,Sem.run_pure,Result.andThen_ok,List.map_toArray,List.map_cons,List.map_nil,hs,hx,hr]
 exact h v' w' h2
end
theorem flat_get {us:List (List Value)} (h11:∀x∈us,x.length=11):∀{idx:Nat} {x:List Value},us[idx]? =some x→∀o,o<11→us.flatten[idx*11+o]? =x[o]? :=by
 induction us with
 |nil=>intro idx x h;simp at h
 |cons y r ih=>
  intro idx x h o ho
  have hy:=h11 y (List.mem_cons_self ..)
  rw[List.flatten_cons]
  cases idx with
  |zero=>
   obtain rfl:y=x:=by simpa using h
   rw[List.getElem?_append_left (by omega)]
   congr 1
   omega
  |succ idx=>
   rw[List.getElem?_append_right (by omega),hy]
   have:=ih (fun z hz=>h11 z (List.mem_cons_of_mem _ hz)) (idx:=idx) (x:=x) (by simpa using h) o ho
   rw[←this]
   congr 1
   omega
section
variable {w W w':World} {rb tb cap i j:Nat} {t:Tk} {k kj aj:Int} {g:Prop} {L:List (Nat × Array Value)} {T:List (List Value)} {kv:Value} {vs:List (List Value)}
end
structure Nr where
 k:Int
 p:Int
 n:Int
 m:Int
 s:ByteArray
 c:Nat
structure Rs where
 i:Nat
 k:Int
 a:Int
abbrev GP (α:Type):=Rs→Option (α × Rs)
section
variable {α β σ:Type}
def ret (x:α):GP α:=fun s=>some (x,s)
def bnd (x:GP α) (f:α→GP β):GP β:=fun s=>match x s with
 |none=>none
 |some (y,s2)=>f y s2
def seq (x:GP α) (y:GP β):GP β:=bnd x (fun _=>y)
def cond (b:Bool) (x y:GP α):GP α:=if b then x else y
def loop (b:σ→GP (Bool × σ)):Nat→σ→GP σ
 |0,_=>fun _=>none
 |n+1,x=>bnd (b x) (fun r=>cond r.1 (loop b n r.2) (ret r.2))
end
section
variable (t:Tk)
def gN:GP Bool:=fun s=>some (s.k==0,s)
def bY (d:Nat) (w:ByteArray):GP Bool:=fun s=>some (au t s.i s.k d w,s)
def fB (d:Nat) (q:Int):GP Bool:=fun s=>some (bf t s.i s.k d q,s)
def dK (n:Nat):GP Unit:=fun s=>some ((),⟨s.i+n,s.k,s.a⟩)
def jB:GP Unit:=fun s=>some ((),if s.k==0 then⟨s.i,4,t.pos s.i⟩ else s)
def aY (w:ByteArray):GP Bool:=fun s=>if au t s.i s.k 0 w then some (true,⟨s.i+1,s.k,s.a⟩) else some (false,s)
def aM (w:ByteArray):GP Unit:=bnd (aY t w) (fun b=>cond b (ret ()) (jB t))
def dh:GP Int:=fun s=>some ((t.pos s.i:Int),s)
def H9:GP Int:=fun s=>some ((t.kind s.i:Int),s)
def zf:GP ByteArray:=fun s=>some (t.text s.i,s)
def qh:GP Int:=fun s=>some ((t.num s.i:Int),s)
def bG:GP ByteArray:=bnd (fB t 0 2) (fun b=>cond b (bnd (zf t) (fun s=>seq (dK 1) (ret s))) (seq (jB t) (ret ⟨#[]⟩)))
def nd (k p n m:Int) (s:ByteArray) (ks:List (List Nr)):List Nr:=⟨k,p,n,m,s,ks.length⟩::ks.flatten
abbrev E0:ByteArray:=⟨#[]⟩
def iq (fu most:Nat):GP ByteArray:=bnd (bG t) (fun s0=>bnd (loop (fun(x:ByteArray × Nat × Bool)=>bnd (bY t 0 ⟨#[58,58]⟩) (fun b=>bnd (fB t 1 2) (fun b2=>cond (b&&b2) (cond (x.2.1==most) (seq (jB t) (ret (false,(E0,x.2.1,true)))) (seq (dK 1) (bnd (bG t) (fun s=>ret (true,(x.1++⟨#[58,58]⟩++s,x.2.1+1,x.2.2)))))) (ret (false,x))))) fu (s0,1,false)) (fun r=>ret r.1))
def iR:GP (List Nr):=bnd (dh t) (fun p=>bnd (fB t 0 4) (fun b=>cond b (bnd (zf t) (fun s=>seq (dK 1) (ret (nd 19 p 0 0 s [])))) (seq (jB t) (ret (nd 19 p 0 0 E0 [])))))
def qj (x:GP (List Nr)) (e:ByteArray) (fu:Nat) (out:List (List Nr)):GP (List (List Nr)):=loop (fun o=>bnd gN (fun b=>cond b (bnd x (fun y=>bnd (aY t e) (fun b2=>cond b2 (ret (false,o++[y])) (seq (aM t ⟨#[44]⟩) (ret (true,o++[y])))))) (ret (false,o)))) fu out
def fC (x:GP (List Nr)) (e:ByteArray) (fu:Nat):GP (List (List Nr)):=bnd (aY t e) (fun b=>cond b (ret []) (qj t x e fu []))
def dW:GP ByteArray:=bnd (iR t) (fun y=>ret (match y with|[]=>E0|z::_=>z.s))
def jv (k p:Int) (ks:List (List Nr)):List Nr:=match ks with
 |[y]=>y
 |_=>nd k p 0 0 E0 ks
def jC:GP Int:=bnd (aY t ⟨#[109,117,116]⟩) (fun b=>cond b (ret 1) (ret 0))
def jR:GP Int:=bnd (aY t ⟨#[109,117,116]⟩) (fun b=>cond b (ret 1) (bnd (aY t ⟨#[111,110,99,101]⟩) (fun b2=>cond b2 (ret 2) (ret 0))))
def pI (T:GP (List Nr)):GP (List Nr):=bnd (dh t) (fun p=>bnd (bY t 0 ⟨#[38,38]⟩) (fun d=>seq (dK 1) (bnd (fB t 0 4) (fun b=>bnd (cond b (dW t) (ret E0)) (fun s=>bnd (jC t) (fun n=>bnd T (fun y=>cond d (ret (nd 16 p 0 0 E0 [nd 16 (p+1) n 0 s [y]])) (ret (nd 16 p n 0 s [y])))))))))
def qw (T:GP (List Nr)) (fu:Nat):GP (List (List Nr)):=bnd (loop (fun(x:List (List Nr) × Bool)=>bnd (fB t 0 4) (fun b=>cond b (bnd (iR t) (fun y=>bnd (aY t ⟨#[62]⟩) (fun b2=>cond b2 (ret (false,(x.1++[y],true))) (seq (aM t ⟨#[44]⟩) (ret (true,(x.1++[y],false))))))) (ret (false,x)))) fu ([],false)) (fun r=>cond r.2 (ret r.1) (qj t T ⟨#[62]⟩ fu r.1))
def kI (fu:Nat):GP (List Nr):=bnd (dh t) (fun p=>bnd (iq t fu 2) (fun s=>ret (nd 18 p 0 0 s [])))
def iM (lives:Bool) (fu:Nat):GP (List (List Nr)):=bnd (aY t ⟨#[58]⟩) (fun b=>cond b (loop (fun o=>bnd gN (fun b1=>cond b1 (bnd (fB t 0 4) (fun b2=>bnd (cond (lives||b2) (iR t) (kI t fu)) (fun y=>bnd (aY t ⟨#[43]⟩) (fun b3=>cond b3 (ret (true,o++[y])) (ret (false,o++[y])))))) (ret (false,o)))) fu []) (ret []))
def iT (bounded:Bool) (fu:Nat):GP (List Nr):=bnd (dh t) (fun p=>bnd (aY t ⟨#[60]⟩) (fun b=>cond b (bnd (loop (fun(x:List (List Nr) × Bool)=>bnd gN (fun b1=>cond b1 (bnd (dh t) (fun q=>bnd (fB t 0 4) (fun b2=>cond (b2&&!x.2) (bnd (dW t) (fun s=>bnd (cond bounded (iM t true fu) (ret [])) (fun ks=>bnd (aY t ⟨#[62]⟩) (fun b3=>cond b3 (ret (false,(x.1++[nd 10 q 0 0 s ks],x.2))) (seq (aM t ⟨#[44]⟩) (ret (true,(x.1++[nd 10 q 0 0 s ks],x.2)))))))) (bnd (bG t) (fun s=>bnd (cond bounded (iM t false fu) (ret [])) (fun ks=>bnd (aY t ⟨#[62]⟩) (fun b3=>cond b3 (ret (false,(x.1++[nd 11 q 0 0 s ks],true))) (seq (aM t ⟨#[44]⟩) (ret (true,(x.1++[nd 11 q 0 0 s ks],true))))))))))) (ret (false,x)))) fu ([],false)) (fun r=>ret (nd 9 p 0 0 E0 r.1))) (ret (nd 9 p 0 0 E0 []))))
def nZ (ss:List ByteArray):GP ByteArray:=fun s=>some ((ss.find? (fun w=>au t s.i s.k 0 w)).getD E0,s)
def oO (k:Int) (w:ByteArray) (X:GP (List Nr)) (fu:Nat):GP (List Nr):=bnd X (fun l=>loop (fun l=>bnd gN (fun b0=>bnd (bY t 0 w) (fun b=>cond (b0&&b) (bnd (dh t) (fun p=>seq (aM t w) (bnd X (fun r=>ret (true,nd k p 0 0 E0 [l,r]))))) (ret (false,l))))) fu l)
def mD (ss:List ByteArray) (X:GP (List Nr)) (fu:Nat):GP (List Nr):=bnd X (fun l=>loop (fun l=>bnd gN (fun b0=>cond b0 (bnd (nZ t ss) (fun w=>cond (w.size==0) (ret (false,l)) (bnd (dh t) (fun p=>seq (aM t w) (bnd X (fun r=>ret (true,nd 29 p 0 0 w [l,r]))))))) (ret (false,l)))) fu l)
def vH (U:GP (List Nr)) (fu:Nat):GP (List Nr):=mD t [⟨#[42]⟩,⟨#[47]⟩,⟨#[37]⟩] U fu
def kX (U:GP (List Nr)) (fu:Nat):GP (List Nr):=mD t [⟨#[43]⟩,⟨#[45]⟩] (vH t U fu) fu
def pJ (U:GP (List Nr)) (fu:Nat):GP (List Nr):=bnd (kX t U fu) (fun l=>bnd (nZ t [⟨#[61,61]⟩,⟨#[33,61]⟩,⟨#[60,61]⟩,⟨#[62,61]⟩,⟨#[60]⟩,⟨#[62]⟩]) (fun w=>cond (w.size==0) (ret l) (bnd (dh t) (fun p=>seq (aM t w) (bnd (kX t U fu) (fun r=>ret (nd 29 p 0 0 w [l,r])))))))
def qQ (U:GP (List Nr)) (fu:Nat):GP (List Nr):=oO t 30 ⟨#[38,38]⟩ (pJ t U fu) fu
def tC (U:GP (List Nr)) (fu:Nat):GP (List Nr):=oO t 31 ⟨#[124,124]⟩ (qQ t U fu) fu
def jN (E U:GP (List Nr)) (fu:Nat):GP (List Nr):=bnd (tC t U fu) (fun l=>bnd (bY t 0 ⟨#[61]⟩) (fun b=>cond b (bnd (dh t) (fun p=>seq (aM t ⟨#[61]⟩) (bnd E (fun r=>ret (nd 32 p 0 0 E0 [l,r]))))) (ret l)))
def eG (U P:GP (List Nr)):GP (List Nr):=bnd (dh t) (fun p=>bnd (nZ t [⟨#[45]⟩,⟨#[33]⟩,⟨#[42]⟩,⟨#[38]⟩,⟨#[38,38]⟩]) (fun w=>cond (w.size==0) P (seq (aM t w)
 (cond (w.toList==[45]||w.toList==[33]) (bnd U (fun y=>ret (nd 28 p 0 0 w [y]))) (cond (w.toList==[42]) (bnd U (fun y=>ret (nd 26 p 0 0 E0 [y]))) (cond (w.toList==[38]) (bnd (jC t) (fun n=>bnd U (fun y=>ret (nd 27 p n 0 E0 [y])))) (bnd (jC t) (fun n=>bnd U (fun y=>ret (nd 27 p 0 0 E0 [nd 27 (p+1) n 0 E0 [y]]))))))))))
def fK (E P:GP (List Nr)) (fu:Nat):GP (List Nr):=bnd P (fun e=>loop (fun e=>bnd gN (fun b0=>cond b0 (bnd (bY t 0 ⟨#[40]⟩) (fun b=>cond b (bnd (dh t) (fun p=>seq (aM t ⟨#[40]⟩) (bnd (fC t E ⟨#[41]⟩ fu) (fun ks=>ret (true,nd 24 p 0 0 E0 (e::ks))))))
 (bnd (bY t 0 ⟨#[46]⟩) (fun b2=>cond b2 (bnd (dh t) (fun p=>seq (aM t ⟨#[46]⟩) (bnd (fB t 0 1) (fun b3=>cond b3 (bnd (qh t) (fun n=>seq (dK 1) (ret (true,nd 25 p n 0 E0 [e])))) (bnd (bG t) (fun s=>ret (true,nd 25 p 0 0 s [e]))))))) (ret (false,e)))))) (ret (false,e)))) fu e)
def ig (T:GP (List Nr)) (fu:Nat):GP (List (List Nr)):=bnd (bY t 0 ⟨#[58,58]⟩) (fun b=>bnd (bY t 1 ⟨#[60]⟩) (fun b2=>cond (b&&b2) (seq (dK 2) (qj t T ⟨#[62]⟩ fu [])) (ret [])))
def iN (T:GP (List Nr)) (fu:Nat):GP (List Nr):=bnd (dh t) (fun p=>bnd (aY t ⟨#[105,110,116]⟩) (fun b6=>cond (b6) (ret (nd 13 p 0 0 E0 [])) (bnd (aY t ⟨#[98,111,111,108]⟩) (fun b5=>cond (b5) (ret (nd 14 p 0 0 E0 [])) (bnd (aY t ⟨#[40]⟩) (fun b4=>cond (b4) (bnd (fC t T ⟨#[41]⟩ fu) (fun ks=>ret (jv 15 p ks))) (bnd (bY t 0 ⟨#[38]⟩) (fun b2=>bnd (bY t 0 ⟨#[38,38]⟩) (fun b3=>cond (b2||(b3)) (pI t T) (bnd (aY t ⟨#[102,110]⟩) (fun b1=>cond (b1) (bnd (fB t 0 4) (fun k=>bnd (cond (k) (dW t) (ret (E0))) (fun s=>bnd (jR t) (fun n=>seq (aM t ⟨#[40]⟩) (bnd (fC t T ⟨#[41]⟩ fu) (fun ks=>seq (aM t ⟨#[45,62]⟩) (bnd (T) (fun y=>ret (nd 17 p n 0 s (ks++[y])))))))))) (bnd (iq t fu 2) (fun s=>bnd (aY t ⟨#[60]⟩) (fun b0=>cond (b0) (bnd (qw t T fu) (fun ks=>ret (nd 18 p 0 0 s ks))) (ret (nd 18 p 0 0 s []))))))))))))))))
def kZ (L E P:GP (List Nr)) (fu:Nat):GP (List Nr):=bnd (dh t) (fun p=>seq (aM t ⟨#[123]⟩) (bnd (loop (fun(x:List (List Nr) × Int)=>bnd (gN) (fun b15=>bnd (cond (b15) (aY t ⟨#[125]⟩) (ret (true))) (fun b16=>cond (b16) (ret (false,x)) (bnd (bY t 0 ⟨#[108,101,116]⟩) (fun b14=>cond (b14) (bnd (L) (fun y=>seq (aM t ⟨#[59]⟩) (ret (true,(x.1++[y],x.2))))) (bnd (bY t 0 ⟨#[105,102]⟩) (fun b7=>bnd (bY t 0 ⟨#[109,97,116,99,104]⟩) (fun b8=>bnd (bY t 0 ⟨#[119,104,105,108,101]⟩) (fun b9=>bnd (bY t 0 ⟨#[108,111,111,112]⟩) (fun b10=>bnd (bY t 0 ⟨#[123]⟩) (fun b11=>bnd (cond (b7||(b8||(b9||(b10||(b11))))) (P) (E)) (fun y=>bnd (aY t ⟨#[59]⟩) (fun b13=>cond (b13) (ret (true,(x.1++[y],x.2))) (bnd (bY t 0 ⟨#[125]⟩) (fun b12=>cond (b12) (ret (true,(x.1++[y],1))) (cond (b7||(b8||(b9||(b10||(b11))))) (ret (true,(x.1++[y],x.2))) (seq (jB t) (ret (true,(x.1++[y],x.2)))))))))))))))))))) fu ([],0)) (fun r=>ret (nd 42 p r.2 0 E0 r.1))))
def kL (T E:GP (List Nr)):GP (List Nr):=bnd (dh t) (fun p=>seq (aM t ⟨#[108,101,116]⟩) (bnd (jC t) (fun m=>bnd (bG t) (fun s=>bnd (aY t ⟨#[58]⟩) (fun b19=>cond (b19) (bnd (T) (fun y=>bnd (aY t ⟨#[61]⟩) (fun b17=>cond (b17) (bnd (E) (fun z=>ret (nd 43 p 3 m s [y,z]))) (ret (nd 43 p 1 m s [y]))))) (bnd (aY t ⟨#[61]⟩) (fun b18=>cond (b18) (bnd (E) (fun z=>ret (nd 43 p 2 m s [z]))) (ret (nd 43 p 0 m s [])))))))))
def jZ (fu:Nat):GP (List (List Nr)):=seq (aM t ⟨#[91]⟩) (bnd (aY t ⟨#[93]⟩) (fun b24=>cond (b24) (ret ([])) (loop (fun(o:List (List Nr))=>bnd (gN) (fun YQ=>cond (YQ) (bnd (dh t) (fun p=>bnd (bnd (aY t ⟨#[38]⟩) (fun Ia=>cond (Ia) (bnd (aY t ⟨#[109,117,116]⟩) (fun b20=>cond (b20) (ret ((2:Int))) (ret ((1:Int))))) (ret ((0:Int))))) (fun n=>bnd (bG t) (fun s=>bnd (aY t ⟨#[93]⟩) (fun YR=>cond (YR) (ret (false,o++[nd 47 p n 0 s []])) (seq (aM t ⟨#[44]⟩) (ret (true,o++[nd 47 p n 0 s []])))))))) (ret (false,o)))) fu [])))
def iw (T:GP (List Nr)) (fu:Nat):GP (List (List Nr)):=seq (aM t ⟨#[40]⟩) (bnd (aY t ⟨#[41]⟩) (fun b27=>cond (b27) (ret ([])) (loop (fun(o:List (List Nr))=>bnd (gN) (fun YS=>cond (YS) (bnd (dh t) (fun p=>bnd (jC t) (fun m=>bnd (bG t) (fun s=>seq (aM t ⟨#[58]⟩) (bnd (T) (fun y=>bnd (aY t ⟨#[41]⟩) (fun YT=>cond (YT) (ret (false,o++[nd 12 p 0 m s [y]])) (seq (aM t ⟨#[44]⟩) (ret (true,o++[nd 12 p 0 m s [y]])))))))))) (ret (false,o)))) fu [])))
def dQ (T:GP (List Nr)):GP (List Nr):=bnd (dh t) (fun p=>bnd (aY t ⟨#[45,62]⟩) (fun b28=>cond (b28) (T) (ret (nd 15 p 0 0 E0 []))))
def rz (E B J:GP (List Nr)):GP (List Nr):=bnd (dh t) (fun p=>seq (aM t ⟨#[105,102]⟩) (bnd (E) (fun c=>bnd (B) (fun y=>bnd (aY t ⟨#[101,108,115,101]⟩) (fun b29=>cond (b29) (bnd (bY t 0 ⟨#[105,102]⟩) (fun b=>bnd (cond b J B) (fun z=>ret (nd 33 p 0 0 E0 [c,y,z])))) (ret (nd 33 p 0 0 E0 [c,y])))))))
def mQ (E Q:GP (List Nr)) (fu:Nat):GP (List Nr):=bnd (dh t) (fun p=>seq (aM t ⟨#[109,97,116,99,104]⟩) (bnd (E) (fun c=>seq (aM t ⟨#[123]⟩) (bnd (loop (fun(o:List (List Nr))=>bnd (gN) (fun Ai=>bnd (cond (Ai) (aY t ⟨#[125]⟩) (ret (true))) (fun b32=>cond (b32) (ret (false,o)) (bnd (dh t) (fun q=>bnd (Q) (fun y=>seq (aM t ⟨#[61,62]⟩) (bnd (E) (fun z=>bnd (bY t 0 ⟨#[125]⟩) (fun Aj=>cond (Aj) (ret (true,o++[nd 35 q 0 0 E0 [y,z]])) (seq (aM t ⟨#[44]⟩) (ret (true,o++[nd 35 q 0 0 E0 [y,z]])))))))))))) fu [c]) (fun r=>ret (nd 34 p 0 0 E0 r))))))
def qx (T E:GP (List Nr)) (fu:Nat):GP (List Nr):=bnd (dh t) (fun p=>seq (aM t ⟨#[109,97,107,101]⟩) (bnd (iq t fu 2) (fun s=>bnd (ig t T fu) (fun w=>seq (aM t ⟨#[123]⟩) (bnd (loop (fun(o:List (List Nr))=>bnd (gN) (fun YU=>bnd (cond (YU) (aY t ⟨#[125]⟩) (ret (true))) (fun YV=>cond (YV) (ret (false,o)) (bnd (dh t) (fun q=>bnd (bG t) (fun s2=>seq (aM t ⟨#[58]⟩) (bnd (E) (fun z=>bnd (bY t 0 ⟨#[125]⟩) (fun YW=>cond (YW) (ret (true,o++[nd 45 q 0 0 s2 [z]])) (seq (aM t ⟨#[44]⟩) (ret (true,o++[nd 45 q 0 0 s2 [z]])))))))))))) fu w) (fun r=>ret (nd 44 p 0 (w.length:Int) s r)))))))
def gI (T B:GP (List Nr)) (fu:Nat):GP (List Nr):=bnd (dh t) (fun p=>seq (aM t ⟨#[102,110]⟩) (bnd (jR t) (fun n=>bnd (jZ t fu) (fun cs=>bnd (iw t T fu) (fun ps=>bnd (dQ t T) (fun y=>bnd (B) (fun z=>ret (nd 46 p n (cs.length:Int) E0 (cs++ps++[y,z])))))))))
def bN (Q:GP (List Nr)) (fu:Nat):GP (List Nr):=bnd (dh t) (fun p=>bnd (aY t ⟨#[95]⟩) (fun b47=>cond (b47) (ret (nd 49 p 0 0 E0 [])) (bnd (aY t ⟨#[45]⟩) (fun b46=>cond (b46) (bnd (fB t 0 1) (fun YX=>cond (YX) (bnd (qh t) (fun n=>seq (dK 1) (ret (nd 51 p (-n) 0 E0 [])))) (seq (jB t) (ret (nd 51 p 0 0 E0 []))))) (bnd (fB t 0 1) (fun b45=>cond (b45) (bnd (qh t) (fun n=>seq (dK 1) (ret (nd 51 p n 0 E0 [])))) (bnd (bY t 0 ⟨#[116,114,117,101]⟩) (fun b43=>bnd (bY t 0 ⟨#[102,97,108,115,101]⟩) (fun b44=>cond (b43||(b44)) (bnd (aY t ⟨#[116,114,117,101]⟩) (fun b37=>cond (b37) (ret (nd 52 p 1 0 E0 [])) (seq (aM t ⟨#[102,97,108,115,101]⟩) (ret (nd 52 p 0 0 E0 []))))) (bnd (aY t ⟨#[40]⟩) (fun b42=>cond (b42) (bnd (fC t Q ⟨#[41]⟩ fu) (fun ks=>ret (jv 53 p ks))) (bnd (bY t 0 ⟨#[114,101,102]⟩) (fun b40=>bnd (bY t 0 ⟨#[109,117,116]⟩) (fun b41=>cond (b40||(b41)) (bnd (aY t ⟨#[114,101,102]⟩) (fun YZ=>cond (YZ) (bnd (aY t ⟨#[109,117,116]⟩) (fun x=>cond x (bnd (bG t) (fun s=>ret (nd 50 p 2 0 s []))) (bnd (bG t) (fun s=>ret (nd 50 p 1 0 s []))))) (seq (aM t ⟨#[109,117,116]⟩) (bnd (bG t) (fun s=>ret (nd 50 p 0 1 s [])))))) (bnd (iq t fu 3) (fun s=>bnd (gN) (fun ok=>cond (ok&&!(s.toList.contains 58)) (ret (nd 50 p 0 0 s [])) (bnd (bY t 0 ⟨#[40]⟩) (fun Y2=>cond (Y2) (seq (aM t ⟨#[40]⟩) (bnd (bY t 0 ⟨#[41]⟩) (fun c=>seq (cond c (jB t) (ret ())) (bnd (fC t Q ⟨#[41]⟩ fu) (fun ks=>ret (nd 54 p 0 0 s ks)))))) (ret (nd 54 p 0 0 s [])))))))))))))))))))))
def bO (T E B Q J:GP (List Nr)) (fu:Nat):GP (List Nr):=bnd (dh t) (fun p=>bnd (zf t) (fun w=>cond (w.toList==[116,114,117,101]) (seq (dK 1) (ret (nd 21 p 1 0 E0 []))) (cond (w.toList==[102,97,108,115,101]) (seq (dK 1) (ret (nd 21 p 0 0 E0 []))) (cond (w.toList==[98,114,101,97,107]) (seq (dK 1) (ret (nd 38 p 0 0 E0 []))) (cond (w.toList==[110,101,120,116]) (seq (dK 1) (ret (nd 39 p 0 0 E0 []))) (cond (w.toList==[112,97,110,105,99]) (seq (dK 1) (ret (nd 41 p 0 0 E0 []))) (cond (w.toList==[114,101,116,117,114,110]) (seq (dK 1) (bnd (bY t 0 ⟨#[59]⟩) (fun Y3=>bnd (bY t 0 ⟨#[125]⟩) (fun Y4=>bnd (bY t 0 ⟨#[41]⟩) (fun Y5=>bnd (bY t 0 ⟨#[44]⟩) (fun Y6=>bnd (bY t 0 ⟨#[93]⟩) (fun Y7=>cond (Y3||(Y4||(Y5||(Y6||(Y7))))) (ret (nd 40 p 0 0 E0 [])) (bnd (E) (fun y=>ret (nd 40 p 0 0 E0 [y])))))))))) (cond (w.toList==[105,102]) (J) (cond (w.toList==[109,97,116,99,104]) (mQ t E Q fu) (cond (w.toList==[119,104,105,108,101]) (seq (dK 1) (bnd (E) (fun c=>bnd (B) (fun y=>ret (nd 36 p 0 0 E0 [c,y]))))) (cond (w.toList==[108,111,111,112]) (seq (dK 1) (bnd (B) (fun y=>ret (nd 37 p 0 0 E0 [y])))) (cond (w.toList==[109,97,107,101]) (qx t T E fu) (cond (w.toList==[102,110]) (gI t T B fu) (cond (w.toList==[115,112,97,119,110]) (seq (dK 1) (bnd (jZ t fu) (fun cs=>bnd (dQ t T) (fun y=>bnd (B) (fun z=>ret (nd 48 p 0 (cs.length:Int) E0 (cs++[y,z]))))))) (seq (jB t) (ret (nd 0 p 0 0 E0 [])))))))))))))))))
def aX (T E B Q J:GP (List Nr)) (fu:Nat):GP (List Nr):=bnd (dh t) (fun p=>bnd (gN) (fun ok=>cond (ok) (bnd (H9 t) (fun k=>cond (k==1) (bnd (qh t) (fun n=>seq (dK 1) (ret (nd 20 p n 0 E0 [])))) (cond (k==2) (bnd (iq t fu 3) (fun s=>bnd (ig t T fu) (fun ks=>ret (nd 23 p 0 0 s ks)))) (bnd (aY t ⟨#[40]⟩) (fun b54=>cond (b54) (bnd (fC t E ⟨#[41]⟩ fu) (fun ks=>ret (jv 22 p ks))) (bnd (bY t 0 ⟨#[123]⟩) (fun b53=>cond (b53) (B) (cond (k==3) (bO t T E B Q J fu) (seq (jB t) (ret (nd 0 p 0 0 E0 []))))))))))) (ret (nd 0 p 0 0 E0 []))))
def fM (T:GP (List Nr)) (general:Bool) (fu:Nat):GP (Int × ByteArray × List (List Nr) × Int):=bnd (dh t) (fun p=>seq (aM t ⟨#[102,110]⟩) (bnd (bG t) (fun s=>bnd (dh t) (fun q=>bnd (cond (general) (iT t true fu) (ret (nd 9 q 0 0 E0 []))) (fun g=>bnd (iw t T fu) (fun ps=>bnd (dQ t T) (fun y=>ret (p,s,g::(ps++[y]),(ps.length:Int)))))))))
def jS (T:GP (List Nr)) (p m:Int) (fu:Nat):GP (List Nr):=bnd (bG t) (fun s=>bnd (iT t false fu) (fun g=>bnd (dh t) (fun q=>seq (aM t ⟨#[123]⟩) (bnd (loop (fun(o:List (List Nr))=>bnd (gN) (fun Y8=>bnd (cond (Y8) (aY t ⟨#[125]⟩) (ret (true))) (fun Y9=>cond (Y9) (ret (false,o)) (bnd (dh t) (fun f=>bnd (bnd (aY t ⟨#[112,117,98]⟩) (fun Ak=>cond (Ak) (ret ((1:Int))) (ret ((0:Int))))) (fun fm=>bnd (bG t) (fun fs=>seq (aM t ⟨#[58]⟩) (bnd (T) (fun y=>bnd (bY t 0 ⟨#[125]⟩) (fun Za=>cond (Za) (ret (true,o++[nd 5 f 0 fm fs [y]])) (seq (aM t ⟨#[44]⟩) (ret (true,o++[nd 5 f 0 fm fs [y]]))))))))))))) fu []) (fun r=>ret (nd 3 p 0 m s [g,nd 4 q 0 0 E0 r]))))))
def lX (T:GP (List Nr)) (p m:Int) (fu:Nat):GP (List Nr):=bnd (bG t) (fun s=>bnd (iT t false fu) (fun g=>seq (aM t ⟨#[123]⟩) (bnd (loop (fun(o:List (List Nr))=>bnd (gN) (fun Zb=>bnd (cond (Zb) (aY t ⟨#[125]⟩) (ret (true))) (fun Zc=>cond (Zc) (ret (false,o)) (bnd (dh t) (fun q=>bnd (bG t) (fun vs=>bnd (bnd (bY t 0 ⟨#[40]⟩) (fun DI=>cond (DI) (seq (aM t ⟨#[40]⟩) (bnd (bY t 0 ⟨#[41]⟩) (fun c=>seq (cond c (jB t) (ret ())) (fC t T ⟨#[41]⟩ fu)))) (ret ([])))) (fun ks=>bnd (bY t 0 ⟨#[125]⟩) (fun Zd=>cond (Zd) (ret (true,o++[nd 4 q 0 0 vs (ks.map (fun y=>nd 5 (match y with|[]=>0|z::_=>z.p) 0 0 E0 [y]))])) (seq (aM t ⟨#[44]⟩) (ret (true,o++[nd 4 q 0 0 vs (ks.map (fun y=>nd 5 (match y with|[]=>0|z::_=>z.p) 0 0 E0 [y]))]))))))))))) fu [g]) (fun r=>ret (nd 3 p 1 m s r)))))
def kg (T B:GP (List Nr)) (fu:Nat):GP (List Nr):=bnd (dh t) (fun p=>seq (aM t ⟨#[105,109,112,108]⟩) (bnd (iT t true fu) (fun g=>bnd (iq t fu 2) (fun s=>seq (aM t ⟨#[102,111,114]⟩) (bnd (T) (fun y=>seq (aM t ⟨#[123]⟩) (bnd (loop (fun(o:List (List Nr))=>bnd (gN) (fun Ze=>bnd (cond (Ze) (aY t ⟨#[125]⟩) (ret (true))) (fun b64=>cond (b64) (ret (false,o)) (bnd (fM t T false fu) (fun h=>bnd (B) (fun z=>ret (true,o++[nd 8 h.1 h.2.2.2 0 h.2.1 (h.2.2.1++[z])]))))))) fu [g,y]) (fun r=>ret (nd 7 p 0 0 s r)))))))))
def eO (T B:GP (List Nr)) (fu:Nat):GP (List Nr):=bnd (dh t) (fun p=>bnd (bY t 0 ⟨#[105,109,112,108]⟩) (fun OD=>cond (OD) (kg t T B fu) (bnd (bnd (aY t ⟨#[112,117,98]⟩) (fun Ak=>cond (Ak) (ret ((1:Int))) (ret ((0:Int))))) (fun m1=>bnd (bY t 0 ⟨#[99,111,112,121]⟩) (fun c0=>bnd (bY t 1 ⟨#[115,116,114,117,99,116]⟩) (fun c1=>bnd (bY t 1 ⟨#[101,110,117,109]⟩) (fun c2=>bnd (cond (c0&&(c1||c2)) (seq (dK 1) (ret (m1+2))) (ret (m1))) (fun m=>bnd (aY t ⟨#[115,116,114,117,99,116]⟩) (fun Ib=>cond (Ib) (jS t T p m fu) (bnd (aY t ⟨#[101,110,117,109]⟩) (fun Ic=>cond (Ic) (lX t T p m fu) (bnd (aY t ⟨#[116,114,97,105,116]⟩) (fun Ie=>cond (Ie) (bnd (bG t) (fun s=>seq (aM t ⟨#[123]⟩) (bnd (loop (fun(o:List (List Nr))=>bnd (gN) (fun Ig=>bnd (cond (Ig) (aY t ⟨#[125]⟩) (ret (true))) (fun Ih=>cond (Ih) (ret (false,o)) (bnd (bnd (fM t T false fu) (fun h=>ret (nd 8 h.1 h.2.2.2 0 h.2.1 h.2.2.1))) (fun y=>seq (aM t ⟨#[59]⟩) (ret (true,o++[y]))))))) fu []) (fun r=>ret (nd 6 p 0 m s r))))) (bnd (fM t T true fu) (fun h=>bnd (B) (fun z=>ret (nd 8 p h.2.2.2 m h.2.1 (h.2.2.1++[z]))))))))))))))))))
def je (T B:GP (List Nr)) (fu:Nat):GP (List Nr):=bnd (dh t) (fun p=>seq (aM t ⟨#[109,111,100]⟩) (bnd (bG t) (fun s=>seq (aM t ⟨#[123]⟩) (bnd (loop (fun(o:List (List Nr))=>bnd (gN) (fun b0=>bnd (bY t 0 ⟨#[117,115,101]⟩) (fun b1=>cond (b0&&b1) (bnd (dh t) (fun q=>seq (aM t ⟨#[117,115,101]⟩) (bnd (bG t) (fun s1=>seq (aM t ⟨#[58,58]⟩) (bnd (bG t) (fun s2=>seq (aM t ⟨#[59]⟩) (ret (true,o++[nd 2 q 0 0 (s1++⟨#[58,58]⟩++s2) []])))))))) (ret (false,o))))) fu []) (fun us=>bnd (loop (fun(o:List (List Nr))=>bnd (gN) (fun Zf=>bnd (cond (Zf) (aY t ⟨#[125]⟩) (ret (true))) (fun Zg=>cond (Zg) (ret (false,o)) (bnd (eO t T B fu) (fun y=>ret (true,o++[y])))))) fu us) (fun r=>ret (nd 1 p 0 0 s r)))))))
def gG:Nat→Nat→GP (List Nr)
 |0,_=>fun _=>none
 |n+1,0=>iN t (gG n 0) n
 |n+1,1=>jN t (gG n 1) (gG n 2) n
 |n+1,2=>eG t (gG n 2) (fK t (gG n 1) (gG n 6) n)
 |n+1,3=>kZ t (kL t (gG n 0) (gG n 1)) (gG n 1) (gG n 6) n
 |n+1,4=>rz t (gG n 1) (gG n 3) (gG n 4)
 |n+1,5=>bN t (gG n 5) n
 |n+1,_=>aX t (gG n 0) (gG n 1) (gG n 3) (gG n 5) (gG n 4) n
def lF (fu:Nat):GP (List Nr):=bnd (dh t) (fun p=>bnd (loop (fun(o:List (List Nr))=>bnd (gN) (fun b0=>bnd (fB t 0 0) (fun b1=>cond (b0&&!b1) (bnd (je t (gG t fu 0) (gG t fu 3) fu) (fun y=>ret (true,o++[y]))) (ret (false,o))))) fu []) (fun r=>ret (nd 0 p 0 0 E0 r)))
end
end Go.Proofs.YtdplogkmkgekdaaGreatDoor
