/- What a reader of the grammar answers with fuel enough; step by step. -/
import Derived.Test.YtdplogkmkgekdaaGreatDoorZParams
import Derived.Test.YtdplogkmkgekdaaGreatDoorPath
set_option linter.all false
set_option maxRecDepth 100000
set_option maxHeartbeats 4000000
namespace Go.Proofs.YtdplogkmkgekdaaGreatDoor
open Go.RowKit
end Go.Proofs.YtdplogkmkgekdaaGreatDoor
namespace Go.Proofs.YtdplogkmkgekdaaGreatDoor
open Go.RowKit
theorem isB_lt2 {t:Tk} {i:Nat} {k:Int} {s:ByteArray} (hg:t.Good) (h:isB t i k 1 s=true):i+2<t.len:=by
 simp[isB] at h
 obtain⟨_,h2,h3,_⟩:=h
 rcases Nat.lt_or_ge (i+2) t.len with h5|h5
 ·exact h5
 ·have e:i+1=t.len - 1:=by omega
  have hl:=hg.last
  rw[←e] at hl
  omega
end Go.Proofs.YtdplogkmkgekdaaGreatDoor
namespace Go.Proofs.YtdplogkmkgekdaaGreatDoor
open Go.RowKit
end Go.Proofs.YtdplogkmkgekdaaGreatDoor
namespace Go.Proofs.YtdplogkmkgekdaaGreatDoor
open Go.RowKit
variable {wt:Nat}
theorem Mz.nodeOf {w W w':World} {rb tb cap i j:Nat} {t:Tk} {k kj aj:Int} {g:Prop} {s:Int} {L:List (Nat × Array Value)} {T:List (List Value)} {kv:Value} {vs:List (List Value)} (q:Mz wt w rb tb cap t i k g s W j kj aj L T kv vs) {must:Prop} {i':Nat} {k' a':Int} (hx:Nx W rb tb cap t j kj must w' i' k' a') {kind pos n m:Int} {name:ByteArray} {kv':Value} {vs':List (List Value)} (hn:NodeIn W.heap.size (k'=0) w' (nodeC kind pos n m name kv').toList) (hK:Kids W.heap.size (k'=0) w' kv' vs') {d:Int} (hz:k'=0→∀f,tot wt f w' vs'+d≤16*((i':Int) - (j:Int))):Mz wt w rb tb cap t i k g (s - (d - (wt:Int))) w' i' k' a' L ((nodeC kind pos n m name kv').toList::T) kv vs:=by
 refine q.node hx hn (fun e f=>?_)
 obtain⟨hr,h,ha⟩:=hK
 cases f with
 |zero=>
  have h0:=hz e 0
  have h2:nsy wt 0 w' (nodeC kind pos n m name kv').toList=0:=rfl
  have h3:=tot_nonneg wt 0 w' vs'
  rw[h2]
  omega
 |succ f=>
  have e1:nsy wt (f+1) w' (nodeC kind pos n m name kv').toList=wt+(vs'.map (nsy wt f w')).sum:=nsy_eq hr ha
  have e2:=hz e f
  rw[e1]
  unfold tot at e2
  omega
end Go.Proofs.YtdplogkmkgekdaaGreatDoor
namespace Go.Proofs.YtdplogkmkgekdaaGreatDoor
open Go.RowKit
def bndK (lv:Bool) (ks:List Int):Prop:=∀x∈ks,(lv=true→x=19)∧(x=19∨x=18)
end Go.Proofs.YtdplogkmkgekdaaGreatDoor
namespace Go.Proofs.YtdplogkmkgekdaaGreatDoor
open Go.RowKit
end Go.Proofs.YtdplogkmkgekdaaGreatDoor
namespace Go.Proofs.YtdplogkmkgekdaaGreatDoor
open Go.RowKit
end Go.Proofs.YtdplogkmkgekdaaGreatDoor
namespace Go.Proofs.YtdplogkmkgekdaaGreatDoor
open Go.RowKit
end Go.Proofs.YtdplogkmkgekdaaGreatDoor
namespace Go.Proofs.YtdplogkmkgekdaaGreatDoor
open Go.RowKit
theorem lab_var0 {n m:Int} {l:Nat}:lab 4 n m ⟨#[]⟩ l=104:=by
 unfold lab
 rw[if_neg (by decide),if_pos rfl,if_pos (show(⟨#[]⟩:ByteArray).size=0 from rfl)]
theorem lab_field0 {po:Int} {v:Value}:labOf (nodeC 5 po 0 0 ⟨#[]⟩ v).toList=5:=by
 show lab 5 0 0 ⟨#[]⟩ (lenOf v)=5
 unfold lab
 rw[if_neg (by decide),if_neg (by decide),if_pos rfl,if_pos (show(⟨#[]⟩:ByteArray).size=0 from rfl),if_pos rfl]
section
variable {w W w':World} {rb tb cap i j:Nat} {t:Tk} {k kj aj:Int} {g:Prop} {s:Int} {L:List (Nat × Array Value)} {T:List (List Value)} {kv:Value} {vs:List (List Value)}
end
end Go.Proofs.YtdplogkmkgekdaaGreatDoor
namespace Go.Proofs.YtdplogkmkgekdaaGreatDoor
structure Nr where
 k:Int
 p:Int
 n:Int
 m:Int
 s:ByteArray
 c:Nat
structure Rs where
 i:Nat
 k:Int
 a:Int
abbrev GP (α:Type):=Rs→Option (α × Rs)
section
variable {α β σ:Type}
def ret (x:α):GP α:=fun s=>some (x,s)
def bnd (x:GP α) (f:α→GP β):GP β:=fun s=>match x s with
 |none=>none
 |some (y,s2)=>f y s2
def seq (x:GP α) (y:GP β):GP β:=bnd x (fun _=>y)
def cond (b:Bool) (x y:GP α):GP α:=if b then x else y
def loop (b:σ→GP (Bool × σ)):Nat→σ→GP σ
 |0,_=>fun _=>none
 |n+1,x=>bnd (b x) (fun r=>cond r.1 (loop b n r.2) (ret r.2))
end
section
variable (t:Tk)
def gOk:GP Bool:=fun s=>some (s.k==0,s)
def gIs (d:Nat) (w:ByteArray):GP Bool:=fun s=>some (isB t s.i s.k d w,s)
def gKind (d:Nat) (q:Int):GP Bool:=fun s=>some (kindB t s.i s.k d q,s)
def gAdd (n:Nat):GP Unit:=fun s=>some ((),⟨s.i+n,s.k,s.a⟩)
def gBad:GP Unit:=fun s=>some ((),if s.k==0 then⟨s.i,4,t.pos s.i⟩ else s)
def gEat (w:ByteArray):GP Bool:=fun s=>if isB t s.i s.k 0 w then some (true,⟨s.i+1,s.k,s.a⟩) else some (false,s)
def gWant (w:ByteArray):GP Unit:=bnd (gEat t w) (fun b=>cond b (ret ()) (gBad t))
def gAt:GP Int:=fun s=>some ((t.pos s.i:Int),s)
def gTk:GP Int:=fun s=>some ((t.kind s.i:Int),s)
def gText:GP ByteArray:=fun s=>some (t.text s.i,s)
def gNum:GP Int:=fun s=>some ((t.num s.i:Int),s)
def gName:GP ByteArray:=bnd (gKind t 0 2) (fun b=>cond b (bnd (gText t) (fun s=>seq (gAdd 1) (ret s))) (seq (gBad t) (ret ⟨#[]⟩)))
def nd (k p n m:Int) (s:ByteArray) (ks:List (List Nr)):List Nr:=⟨k,p,n,m,s,ks.length⟩::ks.flatten
abbrev E0:ByteArray:=⟨#[]⟩
def gPath (fu most:Nat):GP ByteArray:=bnd (gName t) (fun s0=>bnd (loop (fun(x:ByteArray × Nat × Bool)=>bnd (gIs t 0 ⟨#[58,58]⟩) (fun b=>bnd (gKind t 1 2) (fun b2=>cond (b&&b2) (cond (x.2.1==most) (seq (gBad t) (ret (false,(E0,x.2.1,true)))) (seq (gAdd 1) (bnd (gName t) (fun s=>ret (true,(x.1++⟨#[58,58]⟩++s,x.2.1+1,x.2.2)))))) (ret (false,x))))) fu (s0,1,false)) (fun r=>ret r.1))
def gLife:GP (List Nr):=bnd (gAt t) (fun p=>bnd (gKind t 0 4) (fun b=>cond b (bnd (gText t) (fun s=>seq (gAdd 1) (ret (nd 19 p 0 0 s [])))) (seq (gBad t) (ret (nd 19 p 0 0 E0 [])))))
def gRow (x:GP (List Nr)) (e:ByteArray) (fu:Nat) (out:List (List Nr)):GP (List (List Nr)):=loop (fun o=>bnd gOk (fun b=>cond b (bnd x (fun y=>bnd (gEat t e) (fun b2=>cond b2 (ret (false,o++[y])) (seq (gWant t ⟨#[44]⟩) (ret (true,o++[y])))))) (ret (false,o)))) fu out
def gList (x:GP (List Nr)) (e:ByteArray) (fu:Nat):GP (List (List Nr)):=bnd (gEat t e) (fun b=>cond b (ret []) (gRow t x e fu []))
def gLifeName:GP ByteArray:=bnd (gLife t) (fun y=>ret (match y with|[]=>E0|z::_=>z.s))
def gTuple (k p:Int) (ks:List (List Nr)):List Nr:=match ks with
 |[y]=>y
 |_=>nd k p 0 0 E0 ks
def gMut:GP Int:=bnd (gEat t ⟨#[109,117,116]⟩) (fun b=>cond b (ret 1) (ret 0))
def gMutOnce:GP Int:=bnd (gEat t ⟨#[109,117,116]⟩) (fun b=>cond b (ret 1) (bnd (gEat t ⟨#[111,110,99,101]⟩) (fun b2=>cond b2 (ret 2) (ret 0))))
def gRef (T:GP (List Nr)):GP (List Nr):=bnd (gAt t) (fun p=>bnd (gIs t 0 ⟨#[38,38]⟩) (fun d=>seq (gAdd 1) (bnd (gKind t 0 4) (fun b=>bnd (cond b (gLifeName t) (ret E0)) (fun s=>bnd (gMut t) (fun n=>bnd T (fun y=>cond d (ret (nd 16 p 0 0 E0 [nd 16 (p+1) n 0 s [y]])) (ret (nd 16 p n 0 s [y])))))))))
def gArgs (T:GP (List Nr)) (fu:Nat):GP (List (List Nr)):=bnd (loop (fun(x:List (List Nr) × Bool)=>bnd (gKind t 0 4) (fun b=>cond b (bnd (gLife t) (fun y=>bnd (gEat t ⟨#[62]⟩) (fun b2=>cond b2 (ret (false,(x.1++[y],true))) (seq (gWant t ⟨#[44]⟩) (ret (true,(x.1++[y],false))))))) (ret (false,x)))) fu ([],false)) (fun r=>cond r.2 (ret r.1) (gRow t T ⟨#[62]⟩ fu r.1))
def gPathNode (fu:Nat):GP (List Nr):=bnd (gAt t) (fun p=>bnd (gPath t fu 2) (fun s=>ret (nd 18 p 0 0 s [])))
def gBounds (lives:Bool) (fu:Nat):GP (List (List Nr)):=bnd (gEat t ⟨#[58]⟩) (fun b=>cond b (loop (fun o=>bnd gOk (fun b1=>cond b1 (bnd (gKind t 0 4) (fun b2=>bnd (cond (lives||b2) (gLife t) (gPathNode t fu)) (fun y=>bnd (gEat t ⟨#[43]⟩) (fun b3=>cond b3 (ret (true,o++[y])) (ret (false,o++[y])))))) (ret (false,o)))) fu []) (ret []))
def gGens (bounded:Bool) (fu:Nat):GP (List Nr):=bnd (gAt t) (fun p=>bnd (gEat t ⟨#[60]⟩) (fun b=>cond b (bnd (loop (fun(x:List (List Nr) × Bool)=>bnd gOk (fun b1=>cond b1 (bnd (gAt t) (fun q=>bnd (gKind t 0 4) (fun b2=>cond (b2&&!x.2) (bnd (gLifeName t) (fun s=>bnd (cond bounded (gBounds t true fu) (ret [])) (fun ks=>bnd (gEat t ⟨#[62]⟩) (fun b3=>cond b3 (ret (false,(x.1++[nd 10 q 0 0 s ks],x.2))) (seq (gWant t ⟨#[44]⟩) (ret (true,(x.1++[nd 10 q 0 0 s ks],x.2)))))))) (bnd (gName t) (fun s=>bnd (cond bounded (gBounds t false fu) (ret [])) (fun ks=>bnd (gEat t ⟨#[62]⟩) (fun b3=>cond b3 (ret (false,(x.1++[nd 11 q 0 0 s ks],true))) (seq (gWant t ⟨#[44]⟩) (ret (true,(x.1++[nd 11 q 0 0 s ks],true))))))))))) (ret (false,x)))) fu ([],false)) (fun r=>ret (nd 9 p 0 0 E0 r.1))) (ret (nd 9 p 0 0 E0 []))))
def gSign (ss:List ByteArray):GP ByteArray:=fun s=>some ((ss.find? (fun w=>isB t s.i s.k 0 w)).getD E0,s)
def gChain (k:Int) (w:ByteArray) (X:GP (List Nr)) (fu:Nat):GP (List Nr):=bnd X (fun l=>loop (fun l=>bnd gOk (fun b0=>bnd (gIs t 0 w) (fun b=>cond (b0&&b) (bnd (gAt t) (fun p=>seq (gWant t w) (bnd X (fun r=>ret (true,nd k p 0 0 E0 [l,r]))))) (ret (false,l))))) fu l)
def gChainS (ss:List ByteArray) (X:GP (List Nr)) (fu:Nat):GP (List Nr):=bnd X (fun l=>loop (fun l=>bnd gOk (fun b0=>cond b0 (bnd (gSign t ss) (fun w=>cond (w.size==0) (ret (false,l)) (bnd (gAt t) (fun p=>seq (gWant t w) (bnd X (fun r=>ret (true,nd 29 p 0 0 w [l,r]))))))) (ret (false,l)))) fu l)
def gMul (U:GP (List Nr)) (fu:Nat):GP (List Nr):=gChainS t [⟨#[42]⟩,⟨#[47]⟩,⟨#[37]⟩] U fu
def gAddE (U:GP (List Nr)) (fu:Nat):GP (List Nr):=gChainS t [⟨#[43]⟩,⟨#[45]⟩] (gMul t U fu) fu
def gCmp (U:GP (List Nr)) (fu:Nat):GP (List Nr):=bnd (gAddE t U fu) (fun l=>bnd (gSign t [⟨#[61,61]⟩,⟨#[33,61]⟩,⟨#[60,61]⟩,⟨#[62,61]⟩,⟨#[60]⟩,⟨#[62]⟩]) (fun w=>cond (w.size==0) (ret l) (bnd (gAt t) (fun p=>seq (gWant t w) (bnd (gAddE t U fu) (fun r=>ret (nd 29 p 0 0 w [l,r])))))))
def gAndE (U:GP (List Nr)) (fu:Nat):GP (List Nr):=gChain t 30 ⟨#[38,38]⟩ (gCmp t U fu) fu
def gOrE (U:GP (List Nr)) (fu:Nat):GP (List Nr):=gChain t 31 ⟨#[124,124]⟩ (gAndE t U fu) fu
def gExpr (E U:GP (List Nr)) (fu:Nat):GP (List Nr):=bnd (gOrE t U fu) (fun l=>bnd (gIs t 0 ⟨#[61]⟩) (fun b=>cond b (bnd (gAt t) (fun p=>seq (gWant t ⟨#[61]⟩) (bnd E (fun r=>ret (nd 32 p 0 0 E0 [l,r]))))) (ret l)))
def gUnary (U P:GP (List Nr)):GP (List Nr):=bnd (gAt t) (fun p=>bnd (gSign t [⟨#[45]⟩,⟨#[33]⟩,⟨#[42]⟩,⟨#[38]⟩,⟨#[38,38]⟩]) (fun w=>cond (w.size==0) P (seq (gWant t w)
 (cond (w.toList==[45]||w.toList==[33]) (bnd U (fun y=>ret (nd 28 p 0 0 w [y]))) (cond (w.toList==[42]) (bnd U (fun y=>ret (nd 26 p 0 0 E0 [y]))) (cond (w.toList==[38]) (bnd (gMut t) (fun n=>bnd U (fun y=>ret (nd 27 p n 0 E0 [y])))) (bnd (gMut t) (fun n=>bnd U (fun y=>ret (nd 27 p 0 0 E0 [nd 27 (p+1) n 0 E0 [y]]))))))))))
def gPostfix (E P:GP (List Nr)) (fu:Nat):GP (List Nr):=bnd P (fun e=>loop (fun e=>bnd gOk (fun b0=>cond b0 (bnd (gIs t 0 ⟨#[40]⟩) (fun b=>cond b (bnd (gAt t) (fun p=>seq (gWant t ⟨#[40]⟩) (bnd (gList t E ⟨#[41]⟩ fu) (fun ks=>ret (true,nd 24 p 0 0 E0 (e::ks))))))
 (bnd (gIs t 0 ⟨#[46]⟩) (fun b2=>cond b2 (bnd (gAt t) (fun p=>seq (gWant t ⟨#[46]⟩) (bnd (gKind t 0 1) (fun b3=>cond b3 (bnd (gNum t) (fun n=>seq (gAdd 1) (ret (true,nd 25 p n 0 E0 [e])))) (bnd (gName t) (fun s=>ret (true,nd 25 p 0 0 s [e]))))))) (ret (false,e)))))) (ret (false,e)))) fu e)
def gWritten (T:GP (List Nr)) (fu:Nat):GP (List (List Nr)):=bnd (gIs t 0 ⟨#[58,58]⟩) (fun b=>bnd (gIs t 1 ⟨#[60]⟩) (fun b2=>cond (b&&b2) (seq (gAdd 2) (gRow t T ⟨#[62]⟩ fu [])) (ret [])))
def gTyp (T:GP (List Nr)) (fu:Nat):GP (List Nr):=bnd (gAt t) (fun p=>bnd (gEat t ⟨#[105,110,116]⟩) (fun b6=>cond (b6) (ret (nd 13 p 0 0 E0 [])) (bnd (gEat t ⟨#[98,111,111,108]⟩) (fun b5=>cond (b5) (ret (nd 14 p 0 0 E0 [])) (bnd (gEat t ⟨#[40]⟩) (fun b4=>cond (b4) (bnd (gList t T ⟨#[41]⟩ fu) (fun ks=>ret (gTuple 15 p ks))) (bnd (gIs t 0 ⟨#[38]⟩) (fun b2=>bnd (gIs t 0 ⟨#[38,38]⟩) (fun b3=>cond (b2||(b3)) (gRef t T) (bnd (gEat t ⟨#[102,110]⟩) (fun b1=>cond (b1) (bnd (gKind t 0 4) (fun k=>bnd (cond (k) (gLifeName t) (ret (E0))) (fun s=>bnd (gMutOnce t) (fun n=>seq (gWant t ⟨#[40]⟩) (bnd (gList t T ⟨#[41]⟩ fu) (fun ks=>seq (gWant t ⟨#[45,62]⟩) (bnd (T) (fun y=>ret (nd 17 p n 0 s (ks++[y])))))))))) (bnd (gPath t fu 2) (fun s=>bnd (gEat t ⟨#[60]⟩) (fun b0=>cond (b0) (bnd (gArgs t T fu) (fun ks=>ret (nd 18 p 0 0 s ks))) (ret (nd 18 p 0 0 s []))))))))))))))))
def gBlock (L E P:GP (List Nr)) (fu:Nat):GP (List Nr):=bnd (gAt t) (fun p=>seq (gWant t ⟨#[123]⟩) (bnd (loop (fun(x:List (List Nr) × Int)=>bnd (gOk) (fun b15=>bnd (cond (b15) (gEat t ⟨#[125]⟩) (ret (true))) (fun b16=>cond (b16) (ret (false,x)) (bnd (gIs t 0 ⟨#[108,101,116]⟩) (fun b14=>cond (b14) (bnd (L) (fun y=>seq (gWant t ⟨#[59]⟩) (ret (true,(x.1++[y],x.2))))) (bnd (gIs t 0 ⟨#[105,102]⟩) (fun b7=>bnd (gIs t 0 ⟨#[109,97,116,99,104]⟩) (fun b8=>bnd (gIs t 0 ⟨#[119,104,105,108,101]⟩) (fun b9=>bnd (gIs t 0 ⟨#[108,111,111,112]⟩) (fun b10=>bnd (gIs t 0 ⟨#[123]⟩) (fun b11=>bnd (cond (b7||(b8||(b9||(b10||(b11))))) (P) (E)) (fun y=>bnd (gEat t ⟨#[59]⟩) (fun b13=>cond (b13) (ret (true,(x.1++[y],x.2))) (bnd (gIs t 0 ⟨#[125]⟩) (fun b12=>cond (b12) (ret (true,(x.1++[y],1))) (cond (b7||(b8||(b9||(b10||(b11))))) (ret (true,(x.1++[y],x.2))) (seq (gBad t) (ret (true,(x.1++[y],x.2)))))))))))))))))))) fu ([],0)) (fun r=>ret (nd 42 p r.2 0 E0 r.1))))
def gLet (T E:GP (List Nr)):GP (List Nr):=bnd (gAt t) (fun p=>seq (gWant t ⟨#[108,101,116]⟩) (bnd (gMut t) (fun m=>bnd (gName t) (fun s=>bnd (gEat t ⟨#[58]⟩) (fun b19=>cond (b19) (bnd (T) (fun y=>bnd (gEat t ⟨#[61]⟩) (fun b17=>cond (b17) (bnd (E) (fun z=>ret (nd 43 p 3 m s [y,z]))) (ret (nd 43 p 1 m s [y]))))) (bnd (gEat t ⟨#[61]⟩) (fun b18=>cond (b18) (bnd (E) (fun z=>ret (nd 43 p 2 m s [z]))) (ret (nd 43 p 0 m s [])))))))))
def gCaps (fu:Nat):GP (List (List Nr)):=seq (gWant t ⟨#[91]⟩) (bnd (gEat t ⟨#[93]⟩) (fun b24=>cond (b24) (ret ([])) (loop (fun(o:List (List Nr))=>bnd (gOk) (fun b22=>cond (b22) (bnd (gAt t) (fun p=>bnd (bnd (gEat t ⟨#[38]⟩) (fun b21=>cond (b21) (bnd (gEat t ⟨#[109,117,116]⟩) (fun b20=>cond (b20) (ret ((2:Int))) (ret ((1:Int))))) (ret ((0:Int))))) (fun n=>bnd (gName t) (fun s=>bnd (gEat t ⟨#[93]⟩) (fun b23=>cond (b23) (ret (false,o++[nd 47 p n 0 s []])) (seq (gWant t ⟨#[44]⟩) (ret (true,o++[nd 47 p n 0 s []])))))))) (ret (false,o)))) fu [])))
def gParams (T:GP (List Nr)) (fu:Nat):GP (List (List Nr)):=seq (gWant t ⟨#[40]⟩) (bnd (gEat t ⟨#[41]⟩) (fun b27=>cond (b27) (ret ([])) (loop (fun(o:List (List Nr))=>bnd (gOk) (fun b25=>cond (b25) (bnd (gAt t) (fun p=>bnd (gMut t) (fun m=>bnd (gName t) (fun s=>seq (gWant t ⟨#[58]⟩) (bnd (T) (fun y=>bnd (gEat t ⟨#[41]⟩) (fun b26=>cond (b26) (ret (false,o++[nd 12 p 0 m s [y]])) (seq (gWant t ⟨#[44]⟩) (ret (true,o++[nd 12 p 0 m s [y]])))))))))) (ret (false,o)))) fu [])))
def gResult (T:GP (List Nr)):GP (List Nr):=bnd (gAt t) (fun p=>bnd (gEat t ⟨#[45,62]⟩) (fun b28=>cond (b28) (T) (ret (nd 15 p 0 0 E0 []))))
def gIf (E B J:GP (List Nr)):GP (List Nr):=bnd (gAt t) (fun p=>seq (gWant t ⟨#[105,102]⟩) (bnd (E) (fun c=>bnd (B) (fun y=>bnd (gEat t ⟨#[101,108,115,101]⟩) (fun b29=>cond (b29) (bnd (gIs t 0 ⟨#[105,102]⟩) (fun b=>bnd (cond b J B) (fun z=>ret (nd 33 p 0 0 E0 [c,y,z])))) (ret (nd 33 p 0 0 E0 [c,y])))))))
def gMatch (E Q:GP (List Nr)) (fu:Nat):GP (List Nr):=bnd (gAt t) (fun p=>seq (gWant t ⟨#[109,97,116,99,104]⟩) (bnd (E) (fun c=>seq (gWant t ⟨#[123]⟩) (bnd (loop (fun(o:List (List Nr))=>bnd (gOk) (fun b31=>bnd (cond (b31) (gEat t ⟨#[125]⟩) (ret (true))) (fun b32=>cond (b32) (ret (false,o)) (bnd (gAt t) (fun q=>bnd (Q) (fun y=>seq (gWant t ⟨#[61,62]⟩) (bnd (E) (fun z=>bnd (gIs t 0 ⟨#[125]⟩) (fun b30=>cond (b30) (ret (true,o++[nd 35 q 0 0 E0 [y,z]])) (seq (gWant t ⟨#[44]⟩) (ret (true,o++[nd 35 q 0 0 E0 [y,z]])))))))))))) fu [c]) (fun r=>ret (nd 34 p 0 0 E0 r))))))
def gMake (T E:GP (List Nr)) (fu:Nat):GP (List Nr):=bnd (gAt t) (fun p=>seq (gWant t ⟨#[109,97,107,101]⟩) (bnd (gPath t fu 2) (fun s=>bnd (gWritten t T fu) (fun w=>seq (gWant t ⟨#[123]⟩) (bnd (loop (fun(o:List (List Nr))=>bnd (gOk) (fun b34=>bnd (cond (b34) (gEat t ⟨#[125]⟩) (ret (true))) (fun b35=>cond (b35) (ret (false,o)) (bnd (gAt t) (fun q=>bnd (gName t) (fun s2=>seq (gWant t ⟨#[58]⟩) (bnd (E) (fun z=>bnd (gIs t 0 ⟨#[125]⟩) (fun b33=>cond (b33) (ret (true,o++[nd 45 q 0 0 s2 [z]])) (seq (gWant t ⟨#[44]⟩) (ret (true,o++[nd 45 q 0 0 s2 [z]])))))))))))) fu w) (fun r=>ret (nd 44 p 0 (w.length:Int) s r)))))))
def gClosure (T B:GP (List Nr)) (fu:Nat):GP (List Nr):=bnd (gAt t) (fun p=>seq (gWant t ⟨#[102,110]⟩) (bnd (gMutOnce t) (fun n=>bnd (gCaps t fu) (fun cs=>bnd (gParams t T fu) (fun ps=>bnd (gResult t T) (fun y=>bnd (B) (fun z=>ret (nd 46 p n (cs.length:Int) E0 (cs++ps++[y,z])))))))))
def gPattern (Q:GP (List Nr)) (fu:Nat):GP (List Nr):=bnd (gAt t) (fun p=>bnd (gEat t ⟨#[95]⟩) (fun b47=>cond (b47) (ret (nd 49 p 0 0 E0 [])) (bnd (gEat t ⟨#[45]⟩) (fun b46=>cond (b46) (bnd (gKind t 0 1) (fun b36=>cond (b36) (bnd (gNum t) (fun n=>seq (gAdd 1) (ret (nd 51 p (-n) 0 E0 [])))) (seq (gBad t) (ret (nd 51 p 0 0 E0 []))))) (bnd (gKind t 0 1) (fun b45=>cond (b45) (bnd (gNum t) (fun n=>seq (gAdd 1) (ret (nd 51 p n 0 E0 [])))) (bnd (gIs t 0 ⟨#[116,114,117,101]⟩) (fun b43=>bnd (gIs t 0 ⟨#[102,97,108,115,101]⟩) (fun b44=>cond (b43||(b44)) (bnd (gEat t ⟨#[116,114,117,101]⟩) (fun b37=>cond (b37) (ret (nd 52 p 1 0 E0 [])) (seq (gWant t ⟨#[102,97,108,115,101]⟩) (ret (nd 52 p 0 0 E0 []))))) (bnd (gEat t ⟨#[40]⟩) (fun b42=>cond (b42) (bnd (gList t Q ⟨#[41]⟩ fu) (fun ks=>ret (gTuple 53 p ks))) (bnd (gIs t 0 ⟨#[114,101,102]⟩) (fun b40=>bnd (gIs t 0 ⟨#[109,117,116]⟩) (fun b41=>cond (b40||(b41)) (bnd (gEat t ⟨#[114,101,102]⟩) (fun b38=>cond (b38) (bnd (gEat t ⟨#[109,117,116]⟩) (fun x=>cond x (bnd (gName t) (fun s=>ret (nd 50 p 2 0 s []))) (bnd (gName t) (fun s=>ret (nd 50 p 1 0 s []))))) (seq (gWant t ⟨#[109,117,116]⟩) (bnd (gName t) (fun s=>ret (nd 50 p 0 1 s [])))))) (bnd (gPath t fu 3) (fun s=>bnd (gOk) (fun ok=>cond (ok&&!(s.toList.contains 58)) (ret (nd 50 p 0 0 s [])) (bnd (gIs t 0 ⟨#[40]⟩) (fun b39=>cond (b39) (seq (gWant t ⟨#[40]⟩) (bnd (gIs t 0 ⟨#[41]⟩) (fun c=>seq (cond c (gBad t) (ret ())) (bnd (gList t Q ⟨#[41]⟩ fu) (fun ks=>ret (nd 54 p 0 0 s ks)))))) (ret (nd 54 p 0 0 s [])))))))))))))))))))))
def gWorded (T E B Q J:GP (List Nr)) (fu:Nat):GP (List Nr):=bnd (gAt t) (fun p=>bnd (gText t) (fun w=>cond (w.toList==[116,114,117,101]) (seq (gAdd 1) (ret (nd 21 p 1 0 E0 []))) (cond (w.toList==[102,97,108,115,101]) (seq (gAdd 1) (ret (nd 21 p 0 0 E0 []))) (cond (w.toList==[98,114,101,97,107]) (seq (gAdd 1) (ret (nd 38 p 0 0 E0 []))) (cond (w.toList==[110,101,120,116]) (seq (gAdd 1) (ret (nd 39 p 0 0 E0 []))) (cond (w.toList==[112,97,110,105,99]) (seq (gAdd 1) (ret (nd 41 p 0 0 E0 []))) (cond (w.toList==[114,101,116,117,114,110]) (seq (gAdd 1) (bnd (gIs t 0 ⟨#[59]⟩) (fun b48=>bnd (gIs t 0 ⟨#[125]⟩) (fun b49=>bnd (gIs t 0 ⟨#[41]⟩) (fun b50=>bnd (gIs t 0 ⟨#[44]⟩) (fun b51=>bnd (gIs t 0 ⟨#[93]⟩) (fun b52=>cond (b48||(b49||(b50||(b51||(b52))))) (ret (nd 40 p 0 0 E0 [])) (bnd (E) (fun y=>ret (nd 40 p 0 0 E0 [y])))))))))) (cond (w.toList==[105,102]) (J) (cond (w.toList==[109,97,116,99,104]) (gMatch t E Q fu) (cond (w.toList==[119,104,105,108,101]) (seq (gAdd 1) (bnd (E) (fun c=>bnd (B) (fun y=>ret (nd 36 p 0 0 E0 [c,y]))))) (cond (w.toList==[108,111,111,112]) (seq (gAdd 1) (bnd (B) (fun y=>ret (nd 37 p 0 0 E0 [y])))) (cond (w.toList==[109,97,107,101]) (gMake t T E fu) (cond (w.toList==[102,110]) (gClosure t T B fu) (cond (w.toList==[115,112,97,119,110]) (seq (gAdd 1) (bnd (gCaps t fu) (fun cs=>bnd (gResult t T) (fun y=>bnd (B) (fun z=>ret (nd 48 p 0 (cs.length:Int) E0 (cs++[y,z]))))))) (seq (gBad t) (ret (nd 0 p 0 0 E0 [])))))))))))))))))
def gPrimary (T E B Q J:GP (List Nr)) (fu:Nat):GP (List Nr):=bnd (gAt t) (fun p=>bnd (gOk) (fun ok=>cond (ok) (bnd (gTk t) (fun k=>cond (k==1) (bnd (gNum t) (fun n=>seq (gAdd 1) (ret (nd 20 p n 0 E0 [])))) (cond (k==2) (bnd (gPath t fu 3) (fun s=>bnd (gWritten t T fu) (fun ks=>ret (nd 23 p 0 0 s ks)))) (bnd (gEat t ⟨#[40]⟩) (fun b54=>cond (b54) (bnd (gList t E ⟨#[41]⟩ fu) (fun ks=>ret (gTuple 22 p ks))) (bnd (gIs t 0 ⟨#[123]⟩) (fun b53=>cond (b53) (B) (cond (k==3) (gWorded t T E B Q J fu) (seq (gBad t) (ret (nd 0 p 0 0 E0 []))))))))))) (ret (nd 0 p 0 0 E0 []))))
def gHead (T:GP (List Nr)) (general:Bool) (fu:Nat):GP (Int × ByteArray × List (List Nr) × Int):=bnd (gAt t) (fun p=>seq (gWant t ⟨#[102,110]⟩) (bnd (gName t) (fun s=>bnd (gAt t) (fun q=>bnd (cond (general) (gGens t true fu) (ret (nd 9 q 0 0 E0 []))) (fun g=>bnd (gParams t T fu) (fun ps=>bnd (gResult t T) (fun y=>ret (p,s,g::(ps++[y]),(ps.length:Int)))))))))
def gStruct (T:GP (List Nr)) (p m:Int) (fu:Nat):GP (List Nr):=bnd (gName t) (fun s=>bnd (gGens t false fu) (fun g=>bnd (gAt t) (fun q=>seq (gWant t ⟨#[123]⟩) (bnd (loop (fun(o:List (List Nr))=>bnd (gOk) (fun b57=>bnd (cond (b57) (gEat t ⟨#[125]⟩) (ret (true))) (fun b58=>cond (b58) (ret (false,o)) (bnd (gAt t) (fun f=>bnd (bnd (gEat t ⟨#[112,117,98]⟩) (fun b55=>cond (b55) (ret ((1:Int))) (ret ((0:Int))))) (fun fm=>bnd (gName t) (fun fs=>seq (gWant t ⟨#[58]⟩) (bnd (T) (fun y=>bnd (gIs t 0 ⟨#[125]⟩) (fun b56=>cond (b56) (ret (true,o++[nd 5 f 0 fm fs [y]])) (seq (gWant t ⟨#[44]⟩) (ret (true,o++[nd 5 f 0 fm fs [y]]))))))))))))) fu []) (fun r=>ret (nd 3 p 0 m s [g,nd 4 q 0 0 E0 r]))))))
def gEnum (T:GP (List Nr)) (p m:Int) (fu:Nat):GP (List Nr):=bnd (gName t) (fun s=>bnd (gGens t false fu) (fun g=>seq (gWant t ⟨#[123]⟩) (bnd (loop (fun(o:List (List Nr))=>bnd (gOk) (fun b61=>bnd (cond (b61) (gEat t ⟨#[125]⟩) (ret (true))) (fun b62=>cond (b62) (ret (false,o)) (bnd (gAt t) (fun q=>bnd (gName t) (fun vs=>bnd (bnd (gIs t 0 ⟨#[40]⟩) (fun b59=>cond (b59) (seq (gWant t ⟨#[40]⟩) (bnd (gIs t 0 ⟨#[41]⟩) (fun c=>seq (cond c (gBad t) (ret ())) (gList t T ⟨#[41]⟩ fu)))) (ret ([])))) (fun ks=>bnd (gIs t 0 ⟨#[125]⟩) (fun b60=>cond (b60) (ret (true,o++[nd 4 q 0 0 vs (ks.map (fun y=>nd 5 (match y with|[]=>0|z::_=>z.p) 0 0 E0 [y]))])) (seq (gWant t ⟨#[44]⟩) (ret (true,o++[nd 4 q 0 0 vs (ks.map (fun y=>nd 5 (match y with|[]=>0|z::_=>z.p) 0 0 E0 [y]))]))))))))))) fu [g]) (fun r=>ret (nd 3 p 1 m s r)))))
def gImpl (T B:GP (List Nr)) (fu:Nat):GP (List Nr):=bnd (gAt t) (fun p=>seq (gWant t ⟨#[105,109,112,108]⟩) (bnd (gGens t true fu) (fun g=>bnd (gPath t fu 2) (fun s=>seq (gWant t ⟨#[102,111,114]⟩) (bnd (T) (fun y=>seq (gWant t ⟨#[123]⟩) (bnd (loop (fun(o:List (List Nr))=>bnd (gOk) (fun b63=>bnd (cond (b63) (gEat t ⟨#[125]⟩) (ret (true))) (fun b64=>cond (b64) (ret (false,o)) (bnd (gHead t T false fu) (fun h=>bnd (B) (fun z=>ret (true,o++[nd 8 h.1 h.2.2.2 0 h.2.1 (h.2.2.1++[z])]))))))) fu [g,y]) (fun r=>ret (nd 7 p 0 0 s r)))))))))
def gItem (T B:GP (List Nr)) (fu:Nat):GP (List Nr):=bnd (gAt t) (fun p=>bnd (gIs t 0 ⟨#[105,109,112,108]⟩) (fun b70=>cond (b70) (gImpl t T B fu) (bnd (bnd (gEat t ⟨#[112,117,98]⟩) (fun b55=>cond (b55) (ret ((1:Int))) (ret ((0:Int))))) (fun m1=>bnd (gIs t 0 ⟨#[99,111,112,121]⟩) (fun c0=>bnd (gIs t 1 ⟨#[115,116,114,117,99,116]⟩) (fun c1=>bnd (gIs t 1 ⟨#[101,110,117,109]⟩) (fun c2=>bnd (cond (c0&&(c1||c2)) (seq (gAdd 1) (ret (m1+2))) (ret (m1))) (fun m=>bnd (gEat t ⟨#[115,116,114,117,99,116]⟩) (fun b69=>cond (b69) (gStruct t T p m fu) (bnd (gEat t ⟨#[101,110,117,109]⟩) (fun b68=>cond (b68) (gEnum t T p m fu) (bnd (gEat t ⟨#[116,114,97,105,116]⟩) (fun b67=>cond (b67) (bnd (gName t) (fun s=>seq (gWant t ⟨#[123]⟩) (bnd (loop (fun(o:List (List Nr))=>bnd (gOk) (fun b65=>bnd (cond (b65) (gEat t ⟨#[125]⟩) (ret (true))) (fun b66=>cond (b66) (ret (false,o)) (bnd (bnd (gHead t T false fu) (fun h=>ret (nd 8 h.1 h.2.2.2 0 h.2.1 h.2.2.1))) (fun y=>seq (gWant t ⟨#[59]⟩) (ret (true,o++[y]))))))) fu []) (fun r=>ret (nd 6 p 0 m s r))))) (bnd (gHead t T true fu) (fun h=>bnd (B) (fun z=>ret (nd 8 p h.2.2.2 m h.2.1 (h.2.2.1++[z]))))))))))))))))))
def gModule (T B:GP (List Nr)) (fu:Nat):GP (List Nr):=bnd (gAt t) (fun p=>seq (gWant t ⟨#[109,111,100]⟩) (bnd (gName t) (fun s=>seq (gWant t ⟨#[123]⟩) (bnd (loop (fun(o:List (List Nr))=>bnd (gOk) (fun b0=>bnd (gIs t 0 ⟨#[117,115,101]⟩) (fun b1=>cond (b0&&b1) (bnd (gAt t) (fun q=>seq (gWant t ⟨#[117,115,101]⟩) (bnd (gName t) (fun s1=>seq (gWant t ⟨#[58,58]⟩) (bnd (gName t) (fun s2=>seq (gWant t ⟨#[59]⟩) (ret (true,o++[nd 2 q 0 0 (s1++⟨#[58,58]⟩++s2) []])))))))) (ret (false,o))))) fu []) (fun us=>bnd (loop (fun(o:List (List Nr))=>bnd (gOk) (fun b71=>bnd (cond (b71) (gEat t ⟨#[125]⟩) (ret (true))) (fun b72=>cond (b72) (ret (false,o)) (bnd (gItem t T B fu) (fun y=>ret (true,o++[y])))))) fu us) (fun r=>ret (nd 1 p 0 0 s r)))))))
def gG:Nat→Nat→GP (List Nr)
 |0,_=>fun _=>none
 |n+1,0=>gTyp t (gG n 0) n
 |n+1,1=>gExpr t (gG n 1) (gG n 2) n
 |n+1,2=>gUnary t (gG n 2) (gPostfix t (gG n 1) (gG n 6) n)
 |n+1,3=>gBlock t (gLet t (gG n 0) (gG n 1)) (gG n 1) (gG n 6) n
 |n+1,4=>gIf t (gG n 1) (gG n 3) (gG n 4)
 |n+1,5=>gPattern t (gG n 5) n
 |n+1,_=>gPrimary t (gG n 0) (gG n 1) (gG n 3) (gG n 5) (gG n 4) n
def gProg (fu:Nat):GP (List Nr):=bnd (gAt t) (fun p=>bnd (loop (fun(o:List (List Nr))=>bnd (gOk) (fun b0=>bnd (gKind t 0 0) (fun b1=>cond (b0&&!b1) (bnd (gModule t (gG t fu 0) (gG t fu 3) fu) (fun y=>ret (true,o++[y]))) (ret (false,o))))) fu []) (fun r=>ret (nd 0 p 0 0 E0 r)))
end
end Go.Proofs.YtdplogkmkgekdaaGreatDoor
namespace Go.Proofs.YtdplogkmkgekdaaGreatDoor
section
variable {α β σ:Type}
theorem bnd_q {x:GP α} {f:α→GP β} {s:Rs} {q:α × Rs} (h:x s=some q):bnd x f s=f q.1 q.2:=by unfold bnd;rw[h]
def Ev (m:Nat→GP α) (s:Rs) (r:α × Rs):Prop:=∃n0,∀n,n0≤n→m n s=some r
theorem Ev.one {m:Nat→GP α} {s:Rs} {r r':α × Rs} (h:Ev m s r) (h':Ev m s r'):r=r':=by
 obtain⟨a,ha⟩:=h
 obtain⟨b,hb⟩:=h'
 have h1:=ha (max a b) (Nat.le_max_left _ _)
 have h2:=hb (max a b) (Nat.le_max_right _ _)
 rw[h1] at h2
 exact Option.some.inj h2
theorem Ev.of {x:GP α} {s:Rs} {r:α × Rs} (h:x s=some r):Ev (fun _=>x) s r:=⟨0,fun _ _=>h⟩
theorem Ev.bnd {x:Nat→GP α} {f:Nat→α→GP β} {s:Rs} {q:α × Rs} {r:β × Rs} (h1:Ev x s q) (h2:Ev (fun n=>f n q.1) q.2 r):Ev (fun n=>bnd (x n) (f n)) s r:=by
 obtain⟨a,ha⟩:=h1
 obtain⟨b,hb⟩:=h2
 refine⟨max a b,fun n hn=>?_⟩
 exact(bnd_q (ha n (Nat.le_trans (Nat.le_max_left _ _) hn))).trans (hb n (Nat.le_trans (Nat.le_max_right _ _) hn))
theorem Ev.bnd' {x:Nat→GP α} {f:Nat→α→GP β} {s s2:Rs} {y:α} {r:β × Rs} (h1:Ev x s (y,s2)) (h2:Ev (fun n=>f n y) s2 r):Ev (fun n=>Go.Proofs.YtdplogkmkgekdaaGreatDoor.bnd (x n) (f n)) s r:=Ev.bnd h1 h2
theorem Ev.seq {x:Nat→GP α} {y:Nat→GP β} {s s2:Rs} {u:α} {r:β × Rs} (h1:Ev x s (u,s2)) (h2:Ev y s2 r):Ev (fun n=>seq (x n) (y n)) s r:=Ev.bnd h1 h2
theorem Ev.ret {x:Nat→α} {y:α} {s:Rs} (h:∀n,x n=y):Ev (fun n=>ret (x n)) s (y,s):=⟨0,fun n _=>by show some (x n,s)=_;rw[h n]⟩
theorem Ev.ret' {y:α} {s:Rs}:Ev (fun _=>Go.Proofs.YtdplogkmkgekdaaGreatDoor.ret y) s (y,s):=⟨0,fun _ _=>rfl⟩
theorem Ev.yes {b:Bool} {x y:Nat→GP α} {s:Rs} {r:α × Rs} (hb:b=true) (h:Ev x s r):Ev (fun n=>cond b (x n) (y n)) s r:=by subst hb;exact h
theorem Ev.no {b:Bool} {x y:Nat→GP α} {s:Rs} {r:α × Rs} (hb:b=false) (h:Ev y s r):Ev (fun n=>cond b (x n) (y n)) s r:=by subst hb;exact h
def EvL (b:Nat→σ→GP (Bool × σ)) (x:σ) (s:Rs) (r:σ × Rs):Prop:=∃n0,∀n l,n0≤n→n0≤l→loop (b n) l x s=some r
theorem EvL.ev {b:Nat→σ→GP (Bool × σ)} {x:σ} {s:Rs} {r:σ × Rs} (h:EvL b x s r):Ev (fun n=>loop (b n) n x) s r:=by
 obtain⟨a,ha⟩:=h
 exact⟨a,fun n hn=>ha n n hn hn⟩
theorem EvL.on {b:Nat→σ→GP (Bool × σ)} {x y:σ} {s s2:Rs} {r:σ × Rs} (h1:Ev (fun n=>b n x) s ((true,y),s2)) (h2:EvL b y s2 r):EvL b x s r:=by
 obtain⟨a,ha⟩:=h1
 obtain⟨c,hc⟩:=h2
 refine⟨max a c+1,fun n l hn hl=>?_⟩
 have h3:=Nat.le_max_left a c
 have h4:=Nat.le_max_right a c
 obtain⟨l,rfl⟩:∃m,l=m+1:=⟨l - 1,by omega⟩
 have e1:=ha n (by omega)
 have e2:=hc n l (by omega) (by omega)
 show Go.Proofs.YtdplogkmkgekdaaGreatDoor.bnd (b n x) (fun r=>cond r.1 (loop (b n) l r.2) (Go.Proofs.YtdplogkmkgekdaaGreatDoor.ret r.2)) s=some r
 exact(bnd_q e1).trans e2
theorem EvL.stop {b:Nat→σ→GP (Bool × σ)} {x y:σ} {s s2:Rs} (h1:Ev (fun n=>b n x) s ((false,y),s2)):EvL b x s (y,s2):=by
 obtain⟨a,ha⟩:=h1
 refine⟨a+1,fun n l hn hl=>?_⟩
 obtain⟨l,rfl⟩:∃m,l=m+1:=⟨l - 1,by omega⟩
 have e1:=ha n (by omega)
 show Go.Proofs.YtdplogkmkgekdaaGreatDoor.bnd (b n x) (fun r=>cond r.1 (loop (b n) l r.2) (Go.Proofs.YtdplogkmkgekdaaGreatDoor.ret r.2)) s=some (y,s2)
 exact bnd_q e1
theorem Ev.up {m m':Nat→GP α} {s:Rs} {r:α × Rs} (h:Ev m s r) (e:∀n,m' (n+1)=m n):Ev m' s r:=by
 obtain⟨a,ha⟩:=h
 refine⟨a+1,fun n hn=>?_⟩
 obtain⟨n,rfl⟩:∃m,n=m+1:=⟨n - 1,by omega⟩
 rw[e n]
 exact ha n (by omega)
end
section
variable {t:Tk} {s:Rs} {i:Nat} {k a:Int}
theorem ev_ok:Ev (fun _=>gOk) ⟨i,k,a⟩ (k==0,⟨i,k,a⟩):=Ev.of rfl
theorem ev_is {d:Nat} {w:ByteArray}:Ev (fun _=>gIs t d w) ⟨i,k,a⟩ (isB t i k d w,⟨i,k,a⟩):=Ev.of rfl
theorem ev_kind {d:Nat} {q:Int}:Ev (fun _=>gKind t d q) ⟨i,k,a⟩ (kindB t i k d q,⟨i,k,a⟩):=Ev.of rfl
theorem ev_add {n:Nat}:Ev (fun _=>gAdd n) ⟨i,k,a⟩ ((),⟨i+n,k,a⟩):=Ev.of rfl
theorem ev_at:Ev (fun _=>gAt t) ⟨i,k,a⟩ ((t.pos i:Int),⟨i,k,a⟩):=Ev.of rfl
theorem ev_tk:Ev (fun _=>gTk t) ⟨i,k,a⟩ ((t.kind i:Int),⟨i,k,a⟩):=Ev.of rfl
theorem ev_text:Ev (fun _=>gText t) ⟨i,k,a⟩ (t.text i,⟨i,k,a⟩):=Ev.of rfl
theorem ev_num:Ev (fun _=>gNum t) ⟨i,k,a⟩ ((t.num i:Int),⟨i,k,a⟩):=Ev.of rfl
theorem ev_bad {i':Nat} {k' a':Int} (h:i'=i∧(k=0→k'=4∧a'=t.pos i)∧(k≠0→k'=k∧a'=a)):Ev (fun _=>gBad t) ⟨i,k,a⟩ ((),⟨i',k',a'⟩):=by
 obtain⟨rfl,h1,h2⟩:=h
 refine Ev.of ?_
 unfold gBad
 by_cases e:k=0
 ·obtain⟨rfl,rfl⟩:=h1 e
  subst e
  rfl
 ·obtain⟨rfl,rfl⟩:=h2 e
  show some ((),if k'==0 then _ else _)=_
  have hb:(k'==0)=false:=by simpa using e
  rw[hb]
  rfl
theorem ev_eat {w:ByteArray} {b:Bool} {i':Nat} (h:Eaten t w i k b i'):Ev (fun _=>gEat t w) ⟨i,k,a⟩ (b,⟨i',k,a⟩):=by
 refine Ev.of ?_
 unfold gEat
 show(if isB t i k 0 w then _ else _)=_
 cases b
 ·rw[←h.is_,h.no rfl];rfl
 ·rw[←h.is_,(h.yes rfl).1];rfl
theorem ev_eno {w:ByteArray} (h:isB t i k 0 w=false):Ev (fun _=>gEat t w) ⟨i,k,a⟩ (false,⟨i,k,a⟩):=by
 refine Ev.of ?_
 unfold gEat
 show(if isB t i k 0 w then _ else _)=_
 rw[h]
 rfl
theorem ev_eyes {w:ByteArray} (h:isB t i k 0 w=true):Ev (fun _=>gEat t w) ⟨i,k,a⟩ (true,⟨i+1,k,a⟩):=by
 refine Ev.of ?_
 unfold gEat
 show(if isB t i k 0 w then _ else _)=_
 rw[h]
 rfl
theorem ev_wyes {w:ByteArray} (h:isB t i k 0 w=true):Ev (fun _=>gWant t w) ⟨i,k,a⟩ ((),⟨i+1,k,a⟩):=Ev.bnd' (ev_eyes h) (Ev.yes rfl Ev.ret')
end
end Go.Proofs.YtdplogkmkgekdaaGreatDoor
