/- The grammar's functions: more fuel gives the same; a fault stays what it is. -/
import Derived.Test.YtdplogkmkgekdaaGreatDoorGmc
set_option linter.all false
set_option maxRecDepth 100000
set_option maxHeartbeats 4000000
namespace Go.Proofs.YtdplogkmkgekdaaGreatDoor
def Le {α:Type} (x y:GP α):Prop:=∀s r,x s=some r→y s=some r
def Sy {α:Type} (x:GP α):Prop:=∀s r,x s=some r→s.i≤r.2.i∧(s.k≠0→r.2.k=s.k∧r.2.a=s.a)
section
variable {α β σ:Type} {x x':GP α} {y y':GP β} {f f':α→GP β}
theorem Le.rfl:Le x x:=fun _ _ h=>h
theorem bnd_some {s:Rs} {r:β × Rs} (h:bnd x f s=some r):∃q,x s=some q∧f q.1 q.2=some r:=by
 unfold bnd at h
 split at h
 ·cases h
 ·rename_i e;exact⟨_,e,h⟩
theorem bnd_of {s:Rs} {q:α × Rs} (h:x s=some q):bnd x f s=f q.1 q.2:=by unfold bnd;rw[h]
theorem bnd_le (h1:Le x x') (h2:∀a,Le (f a) (f' a)):Le (bnd x f) (bnd x' f'):=fun s r h=>by
 obtain⟨q,e1,e2⟩:=bnd_some h
 rw[bnd_of (h1 s q e1)]
 exact h2 _ _ _ e2
theorem seq_le (h1:Le x x') (h2:Le y y'):Le (seq x y) (seq x' y'):=bnd_le h1 (fun _=>h2)
theorem cond_le {b:Bool} {z z':GP α} (h1:Le x x') (h2:Le z z'):Le (cond b x z) (cond b x' z'):=by
 unfold cond;split
 ·exact h1
 ·exact h2
theorem loop_le {b b':σ→GP (Bool × σ)} (h:∀x,Le (b x) (b' x)):∀(n n':Nat) (x:σ),n≤n'→Le (loop b n x) (loop b' n' x)
 |0,_,_,_=>fun _ _ h=>by cases h
 |n+1,0,_,h1=>by omega
 |n+1,n'+1,x,h1=>bnd_le (h x) (fun r=>cond_le (loop_le h n n' r.2 (by omega)) Le.rfl)
theorem Sy.ret {a:α}:Sy (ret a):=fun s r h=>by
 obtain rfl:(a,s)=r:=by simpa[Go.Proofs.YtdplogkmkgekdaaGreatDoor.ret] using h
 exact⟨Nat.le_refl _,fun _=>⟨_root_.rfl,_root_.rfl⟩⟩
theorem Sy.bnd (h1:Sy x) (h2:∀a,Sy (f a)):Sy (bnd x f):=fun s r h=>by
 obtain⟨q,e1,e2⟩:=bnd_some h
 obtain⟨a1,b1⟩:=h1 s q e1
 obtain⟨a2,b2⟩:=h2 _ _ _ e2
 refine⟨Nat.le_trans a1 a2,fun hk=>?_⟩
 obtain⟨c1,d1⟩:=b1 hk
 obtain⟨c2,d2⟩:=b2 (by rw[c1];exact hk)
 exact⟨c2.trans c1,d2.trans d1⟩
theorem Sy.seq (h1:Sy x) (h2:Sy y):Sy (seq x y):=Sy.bnd h1 (fun _=>h2)
theorem Sy.cond {b:Bool} {z:GP α} (h1:Sy x) (h2:Sy z):Sy (cond b x z):=by
 unfold Go.Proofs.YtdplogkmkgekdaaGreatDoor.cond;split
 ·exact h1
 ·exact h2
theorem Sy.loop {b:σ→GP (Bool × σ)} (h:∀x,Sy (b x)):∀(n:Nat) (x:σ),Sy (loop b n x)
 |0,_=>fun _ _ h=>by cases h
 |n+1,x=>Sy.bnd (h x) (fun r=>Sy.cond (Sy.loop h n r.2) Sy.ret)
end
section
variable (t:Tk)
theorem st_gOk:Sy gOk:=fun s r h=>by
 obtain rfl:(s.k==0,s)=r:=by simpa[gOk] using h
 exact⟨Nat.le_refl _,fun _=>⟨rfl,rfl⟩⟩
theorem st_gAdd (n:Nat):Sy (gAdd n):=fun s r h=>by
 obtain rfl:((),(⟨s.i+n,s.k,s.a⟩:Rs))=r:=by simpa[gAdd] using h
 exact⟨Nat.le_add_right _ _,fun _=>⟨rfl,rfl⟩⟩
theorem st_gBad:Sy (gBad t):=fun s r h=>by
 have e:((),if s.k==0 then(⟨s.i,4,t.pos s.i⟩:Rs) else s)=r:=by simpa[gBad] using h
 subst e
 refine⟨?_,fun hk=>?_⟩
 ·show s.i≤(if s.k==0 then(⟨s.i,4,t.pos s.i⟩:Rs) else s).i
  split<;>exact Nat.le_refl _
 ·have hb:(s.k==0)=false:=by simpa using hk
  show(if s.k==0 then(⟨s.i,4,t.pos s.i⟩:Rs) else s).k=s.k∧(if s.k==0 then(⟨s.i,4,t.pos s.i⟩:Rs) else s).a=s.a
  rw[hb]
  exact⟨rfl,rfl⟩
theorem st_gEat (w:ByteArray):Sy (gEat t w):=fun s r h=>by
 unfold gEat at h
 split at h
 ·obtain rfl:=Option.some.inj h
  exact⟨Nat.le_succ _,fun _=>⟨rfl,rfl⟩⟩
 ·obtain rfl:=Option.some.inj h
  exact⟨Nat.le_refl _,fun _=>⟨rfl,rfl⟩⟩
theorem st_gIs (d:Nat) (w:ByteArray):Sy (gIs t d w):=fun s r h=>by
 obtain rfl:=Option.some.inj h
 exact⟨Nat.le_refl _,fun _=>⟨rfl,rfl⟩⟩
theorem st_gKind (d:Nat) (q:Int):Sy (gKind t d q):=fun s r h=>by
 obtain rfl:=Option.some.inj h
 exact⟨Nat.le_refl _,fun _=>⟨rfl,rfl⟩⟩
theorem st_gAt:Sy (gAt t):=fun s r h=>by
 obtain rfl:=Option.some.inj h
 exact⟨Nat.le_refl _,fun _=>⟨rfl,rfl⟩⟩
theorem st_gTk:Sy (gTk t):=fun s r h=>by
 obtain rfl:=Option.some.inj h
 exact⟨Nat.le_refl _,fun _=>⟨rfl,rfl⟩⟩
theorem st_gText:Sy (gText t):=fun s r h=>by
 obtain rfl:=Option.some.inj h
 exact⟨Nat.le_refl _,fun _=>⟨rfl,rfl⟩⟩
theorem st_gNum:Sy (gNum t):=fun s r h=>by
 obtain rfl:=Option.some.inj h
 exact⟨Nat.le_refl _,fun _=>⟨rfl,rfl⟩⟩
theorem st_gSign (ss:List ByteArray):Sy (gSign t ss):=fun s r h=>by
 obtain rfl:=Option.some.inj h
 exact⟨Nat.le_refl _,fun _=>⟨rfl,rfl⟩⟩
theorem st_gWant (w:ByteArray):Sy (gWant t w):=by
 unfold gWant
 repeat' (first|with_reducible (first|exact Sy.ret|assumption|apply st_gBad|apply st_gEat|apply Sy.bnd|apply Sy.seq|apply Sy.cond|apply Sy.ite|apply Sy.loop)|intro)
theorem st_gName:Sy (gName t):=by
 unfold gName
 repeat' (first|with_reducible (first|exact Sy.ret|assumption|apply st_gAdd|apply st_gBad|apply st_gKind|apply st_gText|apply Sy.bnd|apply Sy.seq|apply Sy.cond|apply Sy.ite|apply Sy.loop)|intro)
theorem le_gPath {fu fu':Nat} (most:Nat) (hfu:fu≤fu'):Le (gPath t fu most) (gPath t fu' most):=by
 unfold gPath
 repeat' (first|with_reducible (first|exact Le.rfl|assumption|apply bnd_le|apply seq_le|apply cond_le|apply ite_le|apply loop_le)|intro)
theorem st_gPath (fu:Nat) (most:Nat):Sy (gPath t fu most):=by
 unfold gPath
 repeat' (first|with_reducible (first|exact Sy.ret|assumption|apply st_gAdd|apply st_gBad|apply st_gIs|apply st_gKind|apply st_gName|apply Sy.bnd|apply Sy.seq|apply Sy.cond|apply Sy.ite|apply Sy.loop)|intro)
theorem st_gLife:Sy (gLife t):=by
 unfold gLife
 repeat' (first|with_reducible (first|exact Sy.ret|assumption|apply st_gAdd|apply st_gBad|apply st_gKind|apply st_gAt|apply st_gText|apply Sy.bnd|apply Sy.seq|apply Sy.cond|apply Sy.ite|apply Sy.loop)|intro)
theorem le_gRow {x x':GP (List Nr)} (e:ByteArray) {fu fu':Nat} (out:List (List Nr)) (hx:Le x x') (hfu:fu≤fu'):Le (gRow t x e fu out) (gRow t x' e fu' out):=by
 unfold gRow
 repeat' (first|with_reducible (first|exact Le.rfl|assumption|apply bnd_le|apply seq_le|apply cond_le|apply ite_le|apply loop_le)|intro)
theorem st_gRow {x:GP (List Nr)} (e:ByteArray) (fu:Nat) (out:List (List Nr)) (hx:Sy x):Sy (gRow t x e fu out):=by
 unfold gRow
 repeat' (first|with_reducible (first|exact Sy.ret|assumption|apply st_gEat|apply st_gWant|apply Sy.bnd|apply Sy.seq|apply Sy.cond|apply Sy.ite|apply Sy.loop)|exact st_gOk|intro)
theorem le_gList {x x':GP (List Nr)} (e:ByteArray) {fu fu':Nat} (hx:Le x x') (hfu:fu≤fu'):Le (gList t x e fu) (gList t x' e fu'):=by
 unfold gList
 repeat' (first|with_reducible (first|exact Le.rfl|assumption|apply le_gRow|apply bnd_le|apply seq_le|apply cond_le|apply ite_le|apply loop_le)|intro)
theorem st_gList {x:GP (List Nr)} (e:ByteArray) (fu:Nat) (hx:Sy x):Sy (gList t x e fu):=by
 unfold gList
 repeat' (first|with_reducible (first|exact Sy.ret|assumption|apply st_gEat|apply st_gRow|apply Sy.bnd|apply Sy.seq|apply Sy.cond|apply Sy.ite|apply Sy.loop)|intro)
theorem st_gLifeName:Sy (gLifeName t):=by
 unfold gLifeName
 repeat' (first|with_reducible (first|exact Sy.ret|assumption|apply st_gLife|apply Sy.bnd|apply Sy.seq|apply Sy.cond|apply Sy.ite|apply Sy.loop)|intro)
theorem st_gMut:Sy (gMut t):=by
 unfold gMut
 repeat' (first|with_reducible (first|exact Sy.ret|assumption|apply st_gEat|apply Sy.bnd|apply Sy.seq|apply Sy.cond|apply Sy.ite|apply Sy.loop)|intro)
theorem st_gMutOnce:Sy (gMutOnce t):=by
 unfold gMutOnce
 repeat' (first|with_reducible (first|exact Sy.ret|assumption|apply st_gEat|apply Sy.bnd|apply Sy.seq|apply Sy.cond|apply Sy.ite|apply Sy.loop)|intro)
theorem le_gRef {T T':GP (List Nr)} (hT:Le T T'):Le (gRef t T) (gRef t T'):=by
 unfold gRef
 repeat' (first|with_reducible (first|exact Le.rfl|assumption|apply bnd_le|apply seq_le|apply cond_le|apply ite_le|apply loop_le)|intro)
theorem st_gRef {T:GP (List Nr)} (hT:Sy T):Sy (gRef t T):=by
 unfold gRef
 repeat' (first|with_reducible (first|exact Sy.ret|assumption|apply st_gAdd|apply st_gIs|apply st_gKind|apply st_gAt|apply st_gLifeName|apply st_gMut|apply Sy.bnd|apply Sy.seq|apply Sy.cond|apply Sy.ite|apply Sy.loop)|intro)
theorem le_gArgs {T T':GP (List Nr)} {fu fu':Nat} (hT:Le T T') (hfu:fu≤fu'):Le (gArgs t T fu) (gArgs t T' fu'):=by
 unfold gArgs
 repeat' (first|with_reducible (first|exact Le.rfl|assumption|apply le_gRow|apply bnd_le|apply seq_le|apply cond_le|apply ite_le|apply loop_le)|intro)
theorem st_gArgs {T:GP (List Nr)} (fu:Nat) (hT:Sy T):Sy (gArgs t T fu):=by
 unfold gArgs
 repeat' (first|with_reducible (first|exact Sy.ret|assumption|apply st_gEat|apply st_gKind|apply st_gWant|apply st_gLife|apply st_gRow|apply Sy.bnd|apply Sy.seq|apply Sy.cond|apply Sy.ite|apply Sy.loop)|intro)
theorem st_gPathNode (fu:Nat):Sy (gPathNode t fu):=by
 unfold gPathNode
 repeat' (first|with_reducible (first|exact Sy.ret|assumption|apply st_gAt|apply st_gPath|apply Sy.bnd|apply Sy.seq|apply Sy.cond|apply Sy.ite|apply Sy.loop)|intro)
theorem st_gBounds (lives:Bool) (fu:Nat):Sy (gBounds t lives fu):=by
 unfold gBounds
 repeat' (first|with_reducible (first|exact Sy.ret|assumption|apply st_gEat|apply st_gKind|apply st_gLife|apply st_gPathNode|apply Sy.bnd|apply Sy.seq|apply Sy.cond|apply Sy.ite|apply Sy.loop)|exact st_gOk|intro)
theorem st_gGens (bounded:Bool) (fu:Nat):Sy (gGens t bounded fu):=by
 unfold gGens
 repeat' (first|with_reducible (first|exact Sy.ret|assumption|apply st_gEat|apply st_gKind|apply st_gAt|apply st_gWant|apply st_gName|apply st_gLifeName|apply st_gBounds|apply Sy.bnd|apply Sy.seq|apply Sy.cond|apply Sy.ite|apply Sy.loop)|exact st_gOk|intro)
theorem le_gChain {X X':GP (List Nr)} (k:Int) (w:ByteArray) {fu fu':Nat} (hX:Le X X') (hfu:fu≤fu'):Le (gChain t k w X fu) (gChain t k w X' fu'):=by
 unfold gChain
 repeat' (first|with_reducible (first|exact Le.rfl|assumption|apply bnd_le|apply seq_le|apply cond_le|apply ite_le|apply loop_le)|intro)
theorem st_gChain {X:GP (List Nr)} (k:Int) (w:ByteArray) (fu:Nat) (hX:Sy X):Sy (gChain t k w X fu):=by
 unfold gChain
 repeat' (first|with_reducible (first|exact Sy.ret|assumption|apply st_gIs|apply st_gAt|apply st_gWant|apply Sy.bnd|apply Sy.seq|apply Sy.cond|apply Sy.ite|apply Sy.loop)|exact st_gOk|intro)
theorem le_gChainS {X X':GP (List Nr)} (ss:List ByteArray) {fu fu':Nat} (hX:Le X X') (hfu:fu≤fu'):Le (gChainS t ss X fu) (gChainS t ss X' fu'):=by
 unfold gChainS
 repeat' (first|with_reducible (first|exact Le.rfl|assumption|apply bnd_le|apply seq_le|apply cond_le|apply ite_le|apply loop_le)|intro)
theorem st_gChainS {X:GP (List Nr)} (ss:List ByteArray) (fu:Nat) (hX:Sy X):Sy (gChainS t ss X fu):=by
 unfold gChainS
 repeat' (first|with_reducible (first|exact Sy.ret|assumption|apply st_gAt|apply st_gSign|apply st_gWant|apply Sy.bnd|apply Sy.seq|apply Sy.cond|apply Sy.ite|apply Sy.loop)|exact st_gOk|intro)
theorem le_gMul {U U':GP (List Nr)} {fu fu':Nat} (hU:Le U U') (hfu:fu≤fu'):Le (gMul t U fu) (gMul t U' fu'):=by
 unfold gMul
 repeat' (first|with_reducible (first|exact Le.rfl|assumption|apply le_gChainS|apply bnd_le|apply seq_le|apply cond_le|apply ite_le|apply loop_le)|intro)
theorem st_gMul {U:GP (List Nr)} (fu:Nat) (hU:Sy U):Sy (gMul t U fu):=by
 unfold gMul
 repeat' (first|with_reducible (first|exact Sy.ret|assumption|apply st_gChainS|apply Sy.bnd|apply Sy.seq|apply Sy.cond|apply Sy.ite|apply Sy.loop)|intro)
theorem le_gAddE {U U':GP (List Nr)} {fu fu':Nat} (hU:Le U U') (hfu:fu≤fu'):Le (gAddE t U fu) (gAddE t U' fu'):=by
 unfold gAddE
 repeat' (first|with_reducible (first|exact Le.rfl|assumption|apply le_gChainS|apply le_gMul|apply bnd_le|apply seq_le|apply cond_le|apply ite_le|apply loop_le)|intro)
theorem st_gAddE {U:GP (List Nr)} (fu:Nat) (hU:Sy U):Sy (gAddE t U fu):=by
 unfold gAddE
 repeat' (first|with_reducible (first|exact Sy.ret|assumption|apply st_gChainS|apply st_gMul|apply Sy.bnd|apply Sy.seq|apply Sy.cond|apply Sy.ite|apply Sy.loop)|intro)
theorem le_gCmp {U U':GP (List Nr)} {fu fu':Nat} (hU:Le U U') (hfu:fu≤fu'):Le (gCmp t U fu) (gCmp t U' fu'):=by
 unfold gCmp
 repeat' (first|with_reducible (first|exact Le.rfl|assumption|apply le_gAddE|apply bnd_le|apply seq_le|apply cond_le|apply ite_le|apply loop_le)|intro)
theorem st_gCmp {U:GP (List Nr)} (fu:Nat) (hU:Sy U):Sy (gCmp t U fu):=by
 unfold gCmp
 repeat' (first|with_reducible (first|exact Sy.ret|assumption|apply st_gAt|apply st_gSign|apply st_gWant|apply st_gAddE|apply Sy.bnd|apply Sy.seq|apply Sy.cond|apply Sy.ite|apply Sy.loop)|intro)
theorem le_gAndE {U U':GP (List Nr)} {fu fu':Nat} (hU:Le U U') (hfu:fu≤fu'):Le (gAndE t U fu) (gAndE t U' fu'):=by
 unfold gAndE
 repeat' (first|with_reducible (first|exact Le.rfl|assumption|apply le_gChain|apply le_gCmp|apply bnd_le|apply seq_le|apply cond_le|apply ite_le|apply loop_le)|intro)
theorem st_gAndE {U:GP (List Nr)} (fu:Nat) (hU:Sy U):Sy (gAndE t U fu):=by
 unfold gAndE
 repeat' (first|with_reducible (first|exact Sy.ret|assumption|apply st_gChain|apply st_gCmp|apply Sy.bnd|apply Sy.seq|apply Sy.cond|apply Sy.ite|apply Sy.loop)|intro)
theorem le_gOrE {U U':GP (List Nr)} {fu fu':Nat} (hU:Le U U') (hfu:fu≤fu'):Le (gOrE t U fu) (gOrE t U' fu'):=by
 unfold gOrE
 repeat' (first|with_reducible (first|exact Le.rfl|assumption|apply le_gChain|apply le_gAndE|apply bnd_le|apply seq_le|apply cond_le|apply ite_le|apply loop_le)|intro)
theorem st_gOrE {U:GP (List Nr)} (fu:Nat) (hU:Sy U):Sy (gOrE t U fu):=by
 unfold gOrE
 repeat' (first|with_reducible (first|exact Sy.ret|assumption|apply st_gChain|apply st_gAndE|apply Sy.bnd|apply Sy.seq|apply Sy.cond|apply Sy.ite|apply Sy.loop)|intro)
theorem le_gExpr {E E':GP (List Nr)} {U U':GP (List Nr)} {fu fu':Nat} (hE:Le E E') (hU:Le U U') (hfu:fu≤fu'):Le (gExpr t E U fu) (gExpr t E' U' fu'):=by
 unfold gExpr
 repeat' (first|with_reducible (first|exact Le.rfl|assumption|apply le_gOrE|apply bnd_le|apply seq_le|apply cond_le|apply ite_le|apply loop_le)|intro)
theorem st_gExpr {E:GP (List Nr)} {U:GP (List Nr)} (fu:Nat) (hE:Sy E) (hU:Sy U):Sy (gExpr t E U fu):=by
 unfold gExpr
 repeat' (first|with_reducible (first|exact Sy.ret|assumption|apply st_gIs|apply st_gAt|apply st_gWant|apply st_gOrE|apply Sy.bnd|apply Sy.seq|apply Sy.cond|apply Sy.ite|apply Sy.loop)|intro)
theorem le_gUnary {U U':GP (List Nr)} {P P':GP (List Nr)} (hU:Le U U') (hP:Le P P'):Le (gUnary t U P) (gUnary t U' P'):=by
 unfold gUnary
 repeat' (first|with_reducible (first|exact Le.rfl|assumption|apply bnd_le|apply seq_le|apply cond_le|apply ite_le|apply loop_le)|intro)
theorem st_gUnary {U:GP (List Nr)} {P:GP (List Nr)} (hU:Sy U) (hP:Sy P):Sy (gUnary t U P):=by
 unfold gUnary
 repeat' (first|with_reducible (first|exact Sy.ret|assumption|apply st_gAt|apply st_gSign|apply st_gWant|apply st_gMut|apply Sy.bnd|apply Sy.seq|apply Sy.cond|apply Sy.ite|apply Sy.loop)|intro)
theorem le_gPostfix {E E':GP (List Nr)} {P P':GP (List Nr)} {fu fu':Nat} (hE:Le E E') (hP:Le P P') (hfu:fu≤fu'):Le (gPostfix t E P fu) (gPostfix t E' P' fu'):=by
 unfold gPostfix
 repeat' (first|with_reducible (first|exact Le.rfl|assumption|apply le_gList|apply bnd_le|apply seq_le|apply cond_le|apply ite_le|apply loop_le)|intro)
theorem st_gPostfix {E:GP (List Nr)} {P:GP (List Nr)} (fu:Nat) (hE:Sy E) (hP:Sy P):Sy (gPostfix t E P fu):=by
 unfold gPostfix
 repeat' (first|with_reducible (first|exact Sy.ret|assumption|apply st_gAdd|apply st_gIs|apply st_gKind|apply st_gAt|apply st_gNum|apply st_gWant|apply st_gName|apply st_gList|apply Sy.bnd|apply Sy.seq|apply Sy.cond|apply Sy.ite|apply Sy.loop)|exact st_gOk|intro)
theorem le_gWritten {T T':GP (List Nr)} {fu fu':Nat} (hT:Le T T') (hfu:fu≤fu'):Le (gWritten t T fu) (gWritten t T' fu'):=by
 unfold gWritten
 repeat' (first|with_reducible (first|exact Le.rfl|assumption|apply le_gRow|apply bnd_le|apply seq_le|apply cond_le|apply ite_le|apply loop_le)|intro)
theorem st_gWritten {T:GP (List Nr)} (fu:Nat) (hT:Sy T):Sy (gWritten t T fu):=by
 unfold gWritten
 repeat' (first|with_reducible (first|exact Sy.ret|assumption|apply st_gAdd|apply st_gIs|apply st_gRow|apply Sy.bnd|apply Sy.seq|apply Sy.cond|apply Sy.ite|apply Sy.loop)|intro)
theorem le_gTyp {T T':GP (List Nr)} {fu fu':Nat} (hT:Le T T') (hfu:fu≤fu'):Le (gTyp t T fu) (gTyp t T' fu'):=by
 unfold gTyp
 repeat' (first|with_reducible (first|exact Le.rfl|assumption|apply le_gPath|apply le_gList|apply le_gRef|apply le_gArgs|apply bnd_le|apply seq_le|apply cond_le|apply ite_le|apply loop_le)|intro)
theorem st_gTyp {T:GP (List Nr)} (fu:Nat) (hT:Sy T):Sy (gTyp t T fu):=by
 unfold gTyp
 repeat' (first|with_reducible (first|exact Sy.ret|assumption|apply st_gEat|apply st_gIs|apply st_gKind|apply st_gAt|apply st_gWant|apply st_gPath|apply st_gList|apply st_gLifeName|apply st_gMutOnce|apply st_gRef|apply st_gArgs|apply Sy.bnd|apply Sy.seq|apply Sy.cond|apply Sy.ite|apply Sy.loop)|intro)
theorem le_gBlock {L L':GP (List Nr)} {E E':GP (List Nr)} {P P':GP (List Nr)} {fu fu':Nat} (hL:Le L L') (hE:Le E E') (hP:Le P P') (hfu:fu≤fu'):Le (gBlock t L E P fu) (gBlock t L' E' P' fu'):=by
 unfold gBlock
 repeat' (first|with_reducible (first|exact Le.rfl|assumption|apply bnd_le|apply seq_le|apply cond_le|apply ite_le|apply loop_le)|intro)
theorem st_gBlock {L:GP (List Nr)} {E:GP (List Nr)} {P:GP (List Nr)} (fu:Nat) (hL:Sy L) (hE:Sy E) (hP:Sy P):Sy (gBlock t L E P fu):=by
 unfold gBlock
 repeat' (first|with_reducible (first|exact Sy.ret|assumption|apply st_gBad|apply st_gEat|apply st_gIs|apply st_gAt|apply st_gWant|apply Sy.bnd|apply Sy.seq|apply Sy.cond|apply Sy.ite|apply Sy.loop)|exact st_gOk|intro)
theorem le_gLet {T T':GP (List Nr)} {E E':GP (List Nr)} (hT:Le T T') (hE:Le E E'):Le (gLet t T E) (gLet t T' E'):=by
 unfold gLet
 repeat' (first|with_reducible (first|exact Le.rfl|assumption|apply bnd_le|apply seq_le|apply cond_le|apply ite_le|apply loop_le)|intro)
theorem st_gLet {T:GP (List Nr)} {E:GP (List Nr)} (hT:Sy T) (hE:Sy E):Sy (gLet t T E):=by
 unfold gLet
 repeat' (first|with_reducible (first|exact Sy.ret|assumption|apply st_gEat|apply st_gAt|apply st_gWant|apply st_gName|apply st_gMut|apply Sy.bnd|apply Sy.seq|apply Sy.cond|apply Sy.ite|apply Sy.loop)|intro)
theorem le_gCaps {fu fu':Nat} (hfu:fu≤fu'):Le (gCaps t fu) (gCaps t fu'):=by
 unfold gCaps
 repeat' (first|with_reducible (first|exact Le.rfl|assumption|apply bnd_le|apply seq_le|apply cond_le|apply ite_le|apply loop_le)|intro)
theorem st_gCaps (fu:Nat):Sy (gCaps t fu):=by
 unfold gCaps
 repeat' (first|with_reducible (first|exact Sy.ret|assumption|apply st_gEat|apply st_gAt|apply st_gWant|apply st_gName|apply Sy.bnd|apply Sy.seq|apply Sy.cond|apply Sy.ite|apply Sy.loop)|exact st_gOk|intro)
theorem le_gParams {T T':GP (List Nr)} {fu fu':Nat} (hT:Le T T') (hfu:fu≤fu'):Le (gParams t T fu) (gParams t T' fu'):=by
 unfold gParams
 repeat' (first|with_reducible (first|exact Le.rfl|assumption|apply bnd_le|apply seq_le|apply cond_le|apply ite_le|apply loop_le)|intro)
theorem st_gParams {T:GP (List Nr)} (fu:Nat) (hT:Sy T):Sy (gParams t T fu):=by
 unfold gParams
 repeat' (first|with_reducible (first|exact Sy.ret|assumption|apply st_gEat|apply st_gAt|apply st_gWant|apply st_gName|apply st_gMut|apply Sy.bnd|apply Sy.seq|apply Sy.cond|apply Sy.ite|apply Sy.loop)|exact st_gOk|intro)
theorem le_gResult {T T':GP (List Nr)} (hT:Le T T'):Le (gResult t T) (gResult t T'):=by
 unfold gResult
 repeat' (first|with_reducible (first|exact Le.rfl|assumption|apply bnd_le|apply seq_le|apply cond_le|apply ite_le|apply loop_le)|intro)
theorem st_gResult {T:GP (List Nr)} (hT:Sy T):Sy (gResult t T):=by
 unfold gResult
 repeat' (first|with_reducible (first|exact Sy.ret|assumption|apply st_gEat|apply st_gAt|apply Sy.bnd|apply Sy.seq|apply Sy.cond|apply Sy.ite|apply Sy.loop)|intro)
theorem le_gIf {E E':GP (List Nr)} {B B':GP (List Nr)} {J J':GP (List Nr)} (hE:Le E E') (hB:Le B B') (hJ:Le J J'):Le (gIf t E B J) (gIf t E' B' J'):=by
 unfold gIf
 repeat' (first|with_reducible (first|exact Le.rfl|assumption|apply bnd_le|apply seq_le|apply cond_le|apply ite_le|apply loop_le)|intro)
theorem st_gIf {E:GP (List Nr)} {B:GP (List Nr)} {J:GP (List Nr)} (hE:Sy E) (hB:Sy B) (hJ:Sy J):Sy (gIf t E B J):=by
 unfold gIf
 repeat' (first|with_reducible (first|exact Sy.ret|assumption|apply st_gEat|apply st_gIs|apply st_gAt|apply st_gWant|apply Sy.bnd|apply Sy.seq|apply Sy.cond|apply Sy.ite|apply Sy.loop)|intro)
theorem le_gMatch {E E':GP (List Nr)} {Q Q':GP (List Nr)} {fu fu':Nat} (hE:Le E E') (hQ:Le Q Q') (hfu:fu≤fu'):Le (gMatch t E Q fu) (gMatch t E' Q' fu'):=by
 unfold gMatch
 repeat' (first|with_reducible (first|exact Le.rfl|assumption|apply bnd_le|apply seq_le|apply cond_le|apply ite_le|apply loop_le)|intro)
theorem st_gMatch {E:GP (List Nr)} {Q:GP (List Nr)} (fu:Nat) (hE:Sy E) (hQ:Sy Q):Sy (gMatch t E Q fu):=by
 unfold gMatch
 repeat' (first|with_reducible (first|exact Sy.ret|assumption|apply st_gEat|apply st_gIs|apply st_gAt|apply st_gWant|apply Sy.bnd|apply Sy.seq|apply Sy.cond|apply Sy.ite|apply Sy.loop)|exact st_gOk|intro)
theorem le_gMake {T T':GP (List Nr)} {E E':GP (List Nr)} {fu fu':Nat} (hT:Le T T') (hE:Le E E') (hfu:fu≤fu'):Le (gMake t T E fu) (gMake t T' E' fu'):=by
 unfold gMake
 repeat' (first|with_reducible (first|exact Le.rfl|assumption|apply le_gPath|apply le_gWritten|apply bnd_le|apply seq_le|apply cond_le|apply ite_le|apply loop_le)|intro)
theorem st_gMake {T:GP (List Nr)} {E:GP (List Nr)} (fu:Nat) (hT:Sy T) (hE:Sy E):Sy (gMake t T E fu):=by
 unfold gMake
 repeat' (first|with_reducible (first|exact Sy.ret|assumption|apply st_gEat|apply st_gIs|apply st_gAt|apply st_gWant|apply st_gName|apply st_gPath|apply st_gWritten|apply Sy.bnd|apply Sy.seq|apply Sy.cond|apply Sy.ite|apply Sy.loop)|exact st_gOk|intro)
theorem le_gClosure {T T':GP (List Nr)} {B B':GP (List Nr)} {fu fu':Nat} (hT:Le T T') (hB:Le B B') (hfu:fu≤fu'):Le (gClosure t T B fu) (gClosure t T' B' fu'):=by
 unfold gClosure
 repeat' (first|with_reducible (first|exact Le.rfl|assumption|apply le_gCaps|apply le_gParams|apply le_gResult|apply bnd_le|apply seq_le|apply cond_le|apply ite_le|apply loop_le)|intro)
theorem st_gClosure {T:GP (List Nr)} {B:GP (List Nr)} (fu:Nat) (hT:Sy T) (hB:Sy B):Sy (gClosure t T B fu):=by
 unfold gClosure
 repeat' (first|with_reducible (first|exact Sy.ret|assumption|apply st_gAt|apply st_gWant|apply st_gMutOnce|apply st_gCaps|apply st_gParams|apply st_gResult|apply Sy.bnd|apply Sy.seq|apply Sy.cond|apply Sy.ite|apply Sy.loop)|intro)
theorem le_gPattern {Q Q':GP (List Nr)} {fu fu':Nat} (hQ:Le Q Q') (hfu:fu≤fu'):Le (gPattern t Q fu) (gPattern t Q' fu'):=by
 unfold gPattern
 repeat' (first|with_reducible (first|exact Le.rfl|assumption|apply le_gPath|apply le_gList|apply bnd_le|apply seq_le|apply cond_le|apply ite_le|apply loop_le)|intro)
theorem st_gPattern {Q:GP (List Nr)} (fu:Nat) (hQ:Sy Q):Sy (gPattern t Q fu):=by
 unfold gPattern
 repeat' (first|with_reducible (first|exact Sy.ret|assumption|apply st_gAdd|apply st_gBad|apply st_gEat|apply st_gIs|apply st_gKind|apply st_gAt|apply st_gNum|apply st_gWant|apply st_gName|apply st_gPath|apply st_gList|apply Sy.bnd|apply Sy.seq|apply Sy.cond|apply Sy.ite|apply Sy.loop)|exact st_gOk|intro)
theorem le_gWorded {T T':GP (List Nr)} {E E':GP (List Nr)} {B B':GP (List Nr)} {Q Q':GP (List Nr)} {J J':GP (List Nr)} {fu fu':Nat} (hT:Le T T') (hE:Le E E') (hB:Le B B') (hQ:Le Q Q') (hJ:Le J J') (hfu:fu≤fu'):Le (gWorded t T E B Q J fu) (gWorded t T' E' B' Q' J' fu'):=by
 unfold gWorded
 repeat' (first|with_reducible (first|exact Le.rfl|assumption|apply le_gCaps|apply le_gResult|apply le_gMatch|apply le_gMake|apply le_gClosure|apply bnd_le|apply seq_le|apply cond_le|apply ite_le|apply loop_le)|intro)
theorem st_gWorded {T:GP (List Nr)} {E:GP (List Nr)} {B:GP (List Nr)} {Q:GP (List Nr)} {J:GP (List Nr)} (fu:Nat) (hT:Sy T) (hE:Sy E) (hB:Sy B) (hQ:Sy Q) (hJ:Sy J):Sy (gWorded t T E B Q J fu):=by
 unfold gWorded
 repeat' (first|with_reducible (first|exact Sy.ret|assumption|apply st_gAdd|apply st_gBad|apply st_gIs|apply st_gAt|apply st_gText|apply st_gCaps|apply st_gResult|apply st_gMatch|apply st_gMake|apply st_gClosure|apply Sy.bnd|apply Sy.seq|apply Sy.cond|apply Sy.ite|apply Sy.loop)|intro)
theorem le_gPrimary {T T':GP (List Nr)} {E E':GP (List Nr)} {B B':GP (List Nr)} {Q Q':GP (List Nr)} {J J':GP (List Nr)} {fu fu':Nat} (hT:Le T T') (hE:Le E E') (hB:Le B B') (hQ:Le Q Q') (hJ:Le J J') (hfu:fu≤fu'):Le (gPrimary t T E B Q J fu) (gPrimary t T' E' B' Q' J' fu'):=by
 unfold gPrimary
 repeat' (first|with_reducible (first|exact Le.rfl|assumption|apply le_gPath|apply le_gList|apply le_gWritten|apply le_gWorded|apply bnd_le|apply seq_le|apply cond_le|apply ite_le|apply loop_le)|intro)
theorem st_gPrimary {T:GP (List Nr)} {E:GP (List Nr)} {B:GP (List Nr)} {Q:GP (List Nr)} {J:GP (List Nr)} (fu:Nat) (hT:Sy T) (hE:Sy E) (hB:Sy B) (hQ:Sy Q) (hJ:Sy J):Sy (gPrimary t T E B Q J fu):=by
 unfold gPrimary
 repeat' (first|with_reducible (first|exact Sy.ret|assumption|apply st_gAdd|apply st_gBad|apply st_gEat|apply st_gIs|apply st_gAt|apply st_gTk|apply st_gNum|apply st_gPath|apply st_gList|apply st_gWritten|apply st_gWorded|apply Sy.bnd|apply Sy.seq|apply Sy.cond|apply Sy.ite|apply Sy.loop)|exact st_gOk|intro)
theorem st_gHead {T:GP (List Nr)} (general:Bool) (fu:Nat) (hT:Sy T):Sy (gHead t T general fu):=by
 unfold gHead
 repeat' (first|with_reducible (first|exact Sy.ret|assumption|apply st_gAt|apply st_gWant|apply st_gName|apply st_gGens|apply st_gParams|apply st_gResult|apply Sy.bnd|apply Sy.seq|apply Sy.cond|apply Sy.ite|apply Sy.loop)|intro)
theorem st_gStruct {T:GP (List Nr)} (p:Int) (m:Int) (fu:Nat) (hT:Sy T):Sy (gStruct t T p m fu):=by
 unfold gStruct
 repeat' (first|with_reducible (first|exact Sy.ret|assumption|apply st_gEat|apply st_gIs|apply st_gAt|apply st_gWant|apply st_gName|apply st_gGens|apply Sy.bnd|apply Sy.seq|apply Sy.cond|apply Sy.ite|apply Sy.loop)|exact st_gOk|intro)
theorem st_gEnum {T:GP (List Nr)} (p:Int) (m:Int) (fu:Nat) (hT:Sy T):Sy (gEnum t T p m fu):=by
 unfold gEnum
 repeat' (first|with_reducible (first|exact Sy.ret|assumption|apply st_gBad|apply st_gEat|apply st_gIs|apply st_gAt|apply st_gWant|apply st_gName|apply st_gList|apply st_gGens|apply Sy.bnd|apply Sy.seq|apply Sy.cond|apply Sy.ite|apply Sy.loop)|exact st_gOk|intro)
theorem st_gImpl {T:GP (List Nr)} {B:GP (List Nr)} (fu:Nat) (hT:Sy T) (hB:Sy B):Sy (gImpl t T B fu):=by
 unfold gImpl
 repeat' (first|with_reducible (first|exact Sy.ret|assumption|apply st_gEat|apply st_gAt|apply st_gWant|apply st_gPath|apply st_gGens|apply st_gHead|apply Sy.bnd|apply Sy.seq|apply Sy.cond|apply Sy.ite|apply Sy.loop)|exact st_gOk|intro)
theorem st_gItem {T:GP (List Nr)} {B:GP (List Nr)} (fu:Nat) (hT:Sy T) (hB:Sy B):Sy (gItem t T B fu):=by
 unfold gItem
 repeat' (first|with_reducible (first|exact Sy.ret|assumption|apply st_gAdd|apply st_gEat|apply st_gIs|apply st_gAt|apply st_gWant|apply st_gName|apply st_gHead|apply st_gStruct|apply st_gEnum|apply st_gImpl|apply Sy.bnd|apply Sy.seq|apply Sy.cond|apply Sy.ite|apply Sy.loop)|exact st_gOk|intro)
theorem st_gModule {T:GP (List Nr)} {B:GP (List Nr)} (fu:Nat) (hT:Sy T) (hB:Sy B):Sy (gModule t T B fu):=by
 unfold gModule
 repeat' (first|with_reducible (first|exact Sy.ret|assumption|apply st_gEat|apply st_gIs|apply st_gAt|apply st_gWant|apply st_gName|apply st_gItem|apply Sy.bnd|apply Sy.seq|apply Sy.cond|apply Sy.ite|apply Sy.loop)|exact st_gOk|intro)
theorem gG_le:∀(n n' fn:Nat),n≤n'→Le (gG t n fn) (gG t n' fn)
 |0,_,_,_=>fun _ _ h=>by simp[gG] at h
 |n+1,0,_,h=>by omega
 |n+1,n'+1,fn,h=>by
  have ih:=fun fn=>gG_le n n' fn (by omega)
  have hn:n≤n':=by omega
  match fn with
  |0=>exact le_gTyp t (ih 0) hn
  |1=>exact le_gExpr t (ih 1) (ih 2) hn
  |2=>exact le_gUnary t (ih 2) (le_gPostfix t (ih 1) (ih 6) hn)
  |3=>exact le_gBlock t (le_gLet t (ih 0) (ih 1)) (ih 1) (ih 6) hn
  |4=>exact le_gIf t (ih 1) (ih 3) (ih 4)
  |5=>exact le_gPattern t (ih 5) hn
  |_+6=>exact le_gPrimary t (ih 0) (ih 1) (ih 3) (ih 5) (ih 4) hn
theorem gG_st:∀(n fn:Nat),Sy (gG t n fn)
 |0,_=>fun _ _ h=>by simp[gG] at h
 |n+1,fn=>by
  have ih:=gG_st n
  match fn with
  |0=>exact st_gTyp t n (ih 0)
  |1=>exact st_gExpr t n (ih 1) (ih 2)
  |2=>exact st_gUnary t (ih 2) (st_gPostfix t n (ih 1) (ih 6))
  |3=>exact st_gBlock t n (st_gLet t (ih 0) (ih 1)) (ih 1) (ih 6)
  |4=>exact st_gIf t (ih 1) (ih 3) (ih 4)
  |5=>exact st_gPattern t n (ih 5)
  |_+6=>exact st_gPrimary t n (ih 0) (ih 1) (ih 3) (ih 5) (ih 4)
end
end Go.Proofs.YtdplogkmkgekdaaGreatDoor
