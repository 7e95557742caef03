/- The grammar's functions: more fuel gives the same; a fault stays what it is. -/
import Derived.Test.YtdplogkmkgekdaaGreatDoorGma
set_option linter.all false
set_option maxRecDepth 100000
set_option maxHeartbeats 4000000
namespace Go.Proofs.YtdplogkmkgekdaaGreatDoor
def Le {α:Type} (x y:GP α):Prop:=∀s r,x s=some r→y s=some r
def Sy {α:Type} (x:GP α):Prop:=∀s r,x s=some r→s.i≤r.2.i∧(s.k≠0→r.2.k=s.k∧r.2.a=s.a)
section
variable {α β σ:Type} {x x':GP α} {y y':GP β} {f f':α→GP β}
theorem Le.rfl:Le x x:=fun _ _ h=>h
theorem pK {s:Rs} {r:β × Rs} (h:bnd x f s=some r):∃q,x s=some q∧f q.1 q.2=some r:=by
 unfold bnd at h
 split at h
 ·cases h
 ·rename_i e;exact⟨_,e,h⟩
theorem Zl {s:Rs} {q:α × Rs} (h:x s=some q):bnd x f s=f q.1 q.2:=by unfold bnd;rw[h]
theorem gu (h1:Le x x') (h2:∀a,Le (f a) (f' a)):Le (bnd x f) (bnd x' f'):=fun s r h=>by
 obtain⟨q,e1,e2⟩:=pK h
 rw[Zl (h1 s q e1)]
 exact h2 _ _ _ e2
theorem gV (h1:Le x x') (h2:Le y y'):Le (seq x y) (seq x' y'):=gu h1 (fun _=>h2)
theorem eT {b:Bool} {z z':GP α} (h1:Le x x') (h2:Le z z'):Le (cond b x z) (cond b x' z'):=by
 unfold cond;split
 ·exact h1
 ·exact h2
theorem eU {b b':σ→GP (Bool × σ)} (h:∀x,Le (b x) (b' x)):∀(n n':Nat) (x:σ),n≤n'→Le (loop b n x) (loop b' n' x)
 |0,_,_,_=>fun _ _ h=>by cases h
 |n+1,0,_,h1=>by omega
 |n+1,n'+1,x,h1=>gu (h x) (fun r=>eT (eU h n n' r.2 (by omega)) Le.rfl)
theorem Sy.ret {a:α}:Sy (ret a):=fun s r h=>by
 obtain rfl:(a,s)=r:=by simpa[Go.Proofs.YtdplogkmkgekdaaGreatDoor.ret] using h
 exact⟨Nat.le_refl _,fun _=>⟨_root_.rfl,_root_.rfl⟩⟩
theorem Sy.bnd (h1:Sy x) (h2:∀a,Sy (f a)):Sy (bnd x f):=fun s r h=>by
 obtain⟨q,e1,e2⟩:=pK h
 obtain⟨a1,b1⟩:=h1 s q e1
 obtain⟨a2,b2⟩:=h2 _ _ _ e2
 refine⟨Nat.le_trans a1 a2,fun hk=>?_⟩
 obtain⟨c1,d1⟩:=b1 hk
 obtain⟨c2,d2⟩:=b2 (by rw[c1];exact hk)
 exact⟨c2.trans c1,d2.trans d1⟩
theorem Sy.seq (h1:Sy x) (h2:Sy y):Sy (seq x y):=Sy.bnd h1 (fun _=>h2)
theorem Sy.cond {b:Bool} {z:GP α} (h1:Sy x) (h2:Sy z):Sy (cond b x z):=by
 unfold Go.Proofs.YtdplogkmkgekdaaGreatDoor.cond;split
 ·exact h1
 ·exact h2
theorem Sy.loop {b:σ→GP (Bool × σ)} (h:∀x,Sy (b x)):∀(n:Nat) (x:σ),Sy (loop b n x)
 |0,_=>fun _ _ h=>by cases h
 |n+1,x=>Sy.bnd (h x) (fun r=>Sy.cond (Sy.loop h n r.2) Sy.ret)
end
section
variable (t:Tk)
theorem kr:Sy gN:=fun s r h=>by
 obtain rfl:(s.k==0,s)=r:=by simpa[gN] using h
 exact⟨Nat.le_refl _,fun _=>⟨rfl,rfl⟩⟩
theorem oU (n:Nat):Sy (dK n):=fun s r h=>by
 obtain rfl:((),(⟨s.i+n,s.k,s.a⟩:Rs))=r:=by simpa[dK] using h
 exact⟨Nat.le_add_right _ _,fun _=>⟨rfl,rfl⟩⟩
theorem pY:Sy (jB t):=fun s r h=>by
 have e:((),if s.k==0 then(⟨s.i,4,t.pos s.i⟩:Rs) else s)=r:=by simpa[jB] using h
 subst e
 refine⟨?_,fun hk=>?_⟩
 ·show s.i≤(if s.k==0 then(⟨s.i,4,t.pos s.i⟩:Rs) else s).i
  split<;>exact Nat.le_refl _
 ·have hb:(s.k==0)=false:=by simpa using hk
  show(if s.k==0 then(⟨s.i,4,t.pos s.i⟩:Rs) else s).k=s.k∧(if s.k==0 then(⟨s.i,4,t.pos s.i⟩:Rs) else s).a=s.a
  rw[hb]
  exact⟨rfl,rfl⟩
theorem gM (w:ByteArray):Sy (aY t w):=fun s r h=>by
 unfold aY at h
 split at h
 ·obtain rfl:=Option.some.inj h
  exact⟨Nat.le_succ _,fun _=>⟨rfl,rfl⟩⟩
 ·obtain rfl:=Option.some.inj h
  exact⟨Nat.le_refl _,fun _=>⟨rfl,rfl⟩⟩
theorem ku (d:Nat) (w:ByteArray):Sy (bY t d w):=fun s r h=>by
 obtain rfl:=Option.some.inj h
 exact⟨Nat.le_refl _,fun _=>⟨rfl,rfl⟩⟩
theorem mX (d:Nat) (q:Int):Sy (fB t d q):=fun s r h=>by
 obtain rfl:=Option.some.inj h
 exact⟨Nat.le_refl _,fun _=>⟨rfl,rfl⟩⟩
theorem gF:Sy (dh t):=fun s r h=>by
 obtain rfl:=Option.some.inj h
 exact⟨Nat.le_refl _,fun _=>⟨rfl,rfl⟩⟩
theorem OH:Sy (H9 t):=fun s r h=>by
 obtain rfl:=Option.some.inj h
 exact⟨Nat.le_refl _,fun _=>⟨rfl,rfl⟩⟩
theorem zi:Sy (zf t):=fun s r h=>by
 obtain rfl:=Option.some.inj h
 exact⟨Nat.le_refl _,fun _=>⟨rfl,rfl⟩⟩
theorem BA:Sy (qh t):=fun s r h=>by
 obtain rfl:=Option.some.inj h
 exact⟨Nat.le_refl _,fun _=>⟨rfl,rfl⟩⟩
theorem zk (ss:List ByteArray):Sy (nZ t ss):=fun s r h=>by
 obtain rfl:=Option.some.inj h
 exact⟨Nat.le_refl _,fun _=>⟨rfl,rfl⟩⟩
theorem eY (w:ByteArray):Sy (aM t w):=by
 unfold aM
 repeat' (first|with_reducible (first|exact Sy.ret|assumption|apply pY|apply gM|apply Sy.bnd|apply Sy.seq|apply Sy.cond|apply Sy.ite|apply Sy.loop)|intro)
theorem kC:Sy (bG t):=by
 unfold bG
 repeat' (first|with_reducible (first|exact Sy.ret|assumption|apply oU|apply pY|apply mX|apply zi|apply Sy.bnd|apply Sy.seq|apply Sy.cond|apply Sy.ite|apply Sy.loop)|intro)
theorem zl {fu eZ:Nat} (most:Nat) (hfu:fu≤eZ):Le (iq t fu most) (iq t eZ most):=by
 unfold iq
 repeat' (first|with_reducible (first|exact Le.rfl|assumption|apply gu|apply gV|apply eT|apply iB|apply eU)|intro)
theorem rV (fu:Nat) (most:Nat):Sy (iq t fu most):=by
 unfold iq
 repeat' (first|with_reducible (first|exact Sy.ret|assumption|apply oU|apply pY|apply ku|apply mX|apply kC|apply Sy.bnd|apply Sy.seq|apply Sy.cond|apply Sy.ite|apply Sy.loop)|intro)
theorem zm:Sy (iR t):=by
 unfold iR
 repeat' (first|with_reducible (first|exact Sy.ret|assumption|apply oU|apply pY|apply mX|apply gF|apply zi|apply Sy.bnd|apply Sy.seq|apply Sy.cond|apply Sy.ite|apply Sy.loop)|intro)
theorem EW {x x':GP (List Nr)} (e:ByteArray) {fu eZ:Nat} (out:List (List Nr)) (hx:Le x x') (hfu:fu≤eZ):Le (qj t x e fu out) (qj t x' e eZ out):=by
 unfold qj
 repeat' (first|with_reducible (first|exact Le.rfl|assumption|apply gu|apply gV|apply eT|apply iB|apply eU)|intro)
theorem BD {x:GP (List Nr)} (e:ByteArray) (fu:Nat) (out:List (List Nr)) (hx:Sy x):Sy (qj t x e fu out):=by
 unfold qj
 repeat' (first|with_reducible (first|exact Sy.ret|assumption|apply gM|apply eY|apply Sy.bnd|apply Sy.seq|apply Sy.cond|apply Sy.ite|apply Sy.loop)|exact kr|intro)
theorem zn {x x':GP (List Nr)} (e:ByteArray) {fu eZ:Nat} (hx:Le x x') (hfu:fu≤eZ):Le (fC t x e fu) (fC t x' e eZ):=by
 unfold fC
 repeat' (first|with_reducible (first|exact Le.rfl|assumption|apply EW|apply gu|apply gV|apply eT|apply iB|apply eU)|intro)
theorem uH {x:GP (List Nr)} (e:ByteArray) (fu:Nat) (hx:Sy x):Sy (fC t x e fu):=by
 unfold fC
 repeat' (first|with_reducible (first|exact Sy.ret|assumption|apply gM|apply BD|apply Sy.bnd|apply Sy.seq|apply Sy.cond|apply Sy.ite|apply Sy.loop)|intro)
theorem tF:Sy (dW t):=by
 unfold dW
 repeat' (first|with_reducible (first|exact Sy.ret|assumption|apply zm|apply Sy.bnd|apply Sy.seq|apply Sy.cond|apply Sy.ite|apply Sy.loop)|intro)
theorem xY:Sy (jC t):=by
 unfold jC
 repeat' (first|with_reducible (first|exact Sy.ret|assumption|apply gM|apply Sy.bnd|apply Sy.seq|apply Sy.cond|apply Sy.ite|apply Sy.loop)|intro)
theorem xK:Sy (jR t):=by
 unfold jR
 repeat' (first|with_reducible (first|exact Sy.ret|assumption|apply gM|apply Sy.bnd|apply Sy.seq|apply Sy.cond|apply Sy.ite|apply Sy.loop)|intro)
theorem Ww {T T':GP (List Nr)} (hT:Le T T'):Le (pI t T) (pI t T'):=by
 unfold pI
 repeat' (first|with_reducible (first|exact Le.rfl|assumption|apply gu|apply gV|apply eT|apply iB|apply eU)|intro)
theorem LA {T:GP (List Nr)} (hT:Sy T):Sy (pI t T):=by
 unfold pI
 repeat' (first|with_reducible (first|exact Sy.ret|assumption|apply oU|apply ku|apply mX|apply gF|apply tF|apply xY|apply Sy.bnd|apply Sy.seq|apply Sy.cond|apply Sy.ite|apply Sy.loop)|intro)
theorem Ru {T T':GP (List Nr)} {fu eZ:Nat} (hT:Le T T') (hfu:fu≤eZ):Le (qw t T fu) (qw t T' eZ):=by
 unfold qw
 repeat' (first|with_reducible (first|exact Le.rfl|assumption|apply EW|apply gu|apply gV|apply eT|apply iB|apply eU)|intro)
theorem Ik {T:GP (List Nr)} (fu:Nat) (hT:Sy T):Sy (qw t T fu):=by
 unfold qw
 repeat' (first|with_reducible (first|exact Sy.ret|assumption|apply gM|apply mX|apply eY|apply zm|apply BD|apply Sy.bnd|apply Sy.seq|apply Sy.cond|apply Sy.ite|apply Sy.loop)|intro)
theorem Al (fu:Nat):Sy (kI t fu):=by
 unfold kI
 repeat' (first|with_reducible (first|exact Sy.ret|assumption|apply gF|apply rV|apply Sy.bnd|apply Sy.seq|apply Sy.cond|apply Sy.ite|apply Sy.loop)|intro)
theorem DL (lives:Bool) (fu:Nat):Sy (iM t lives fu):=by
 unfold iM
 repeat' (first|with_reducible (first|exact Sy.ret|assumption|apply gM|apply mX|apply zm|apply Al|apply Sy.bnd|apply Sy.seq|apply Sy.cond|apply Sy.ite|apply Sy.loop)|exact kr|intro)
theorem wC (bounded:Bool) (fu:Nat):Sy (iT t bounded fu):=by
 unfold iT
 repeat' (first|with_reducible (first|exact Sy.ret|assumption|apply gM|apply mX|apply gF|apply eY|apply kC|apply tF|apply DL|apply Sy.bnd|apply Sy.seq|apply Sy.cond|apply Sy.ite|apply Sy.loop)|exact kr|intro)
theorem FU {X X':GP (List Nr)} (k:Int) (w:ByteArray) {fu eZ:Nat} (hX:Le X X') (hfu:fu≤eZ):Le (oO t k w X fu) (oO t k w X' eZ):=by
 unfold oO
 repeat' (first|with_reducible (first|exact Le.rfl|assumption|apply gu|apply gV|apply eT|apply iB|apply eU)|intro)
theorem Am {X:GP (List Nr)} (k:Int) (w:ByteArray) (fu:Nat) (hX:Sy X):Sy (oO t k w X fu):=by
 unfold oO
 repeat' (first|with_reducible (first|exact Sy.ret|assumption|apply ku|apply gF|apply eY|apply Sy.bnd|apply Sy.seq|apply Sy.cond|apply Sy.ite|apply Sy.loop)|exact kr|intro)
theorem DN {X X':GP (List Nr)} (ss:List ByteArray) {fu eZ:Nat} (hX:Le X X') (hfu:fu≤eZ):Le (mD t ss X fu) (mD t ss X' eZ):=by
 unfold mD
 repeat' (first|with_reducible (first|exact Le.rfl|assumption|apply gu|apply gV|apply eT|apply iB|apply eU)|intro)
theorem zo {X:GP (List Nr)} (ss:List ByteArray) (fu:Nat) (hX:Sy X):Sy (mD t ss X fu):=by
 unfold mD
 repeat' (first|with_reducible (first|exact Sy.ret|assumption|apply gF|apply zk|apply eY|apply Sy.bnd|apply Sy.seq|apply Sy.cond|apply Sy.ite|apply Sy.loop)|exact kr|intro)
theorem Wx {U U':GP (List Nr)} {fu eZ:Nat} (hU:Le U U') (hfu:fu≤eZ):Le (vH t U fu) (vH t U' eZ):=by
 unfold vH
 repeat' (first|with_reducible (first|exact Le.rfl|assumption|apply DN|apply gu|apply gV|apply eT|apply iB|apply eU)|intro)
theorem LB {U:GP (List Nr)} (fu:Nat) (hU:Sy U):Sy (vH t U fu):=by
 unfold vH
 repeat' (first|with_reducible (first|exact Sy.ret|assumption|apply zo|apply Sy.bnd|apply Sy.seq|apply Sy.cond|apply Sy.ite|apply Sy.loop)|intro)
theorem Rv {U U':GP (List Nr)} {fu eZ:Nat} (hU:Le U U') (hfu:fu≤eZ):Le (kX t U fu) (kX t U' eZ):=by
 unfold kX
 repeat' (first|with_reducible (first|exact Le.rfl|assumption|apply DN|apply Wx|apply gu|apply gV|apply eT|apply iB|apply eU)|intro)
theorem Il {U:GP (List Nr)} (fu:Nat) (hU:Sy U):Sy (kX t U fu):=by
 unfold kX
 repeat' (first|with_reducible (first|exact Sy.ret|assumption|apply zo|apply LB|apply Sy.bnd|apply Sy.seq|apply Sy.cond|apply Sy.ite|apply Sy.loop)|intro)
theorem Wy {U U':GP (List Nr)} {fu eZ:Nat} (hU:Le U U') (hfu:fu≤eZ):Le (pJ t U fu) (pJ t U' eZ):=by
 unfold pJ
 repeat' (first|with_reducible (first|exact Le.rfl|assumption|apply Rv|apply gu|apply gV|apply eT|apply iB|apply eU)|intro)
theorem LC {U:GP (List Nr)} (fu:Nat) (hU:Sy U):Sy (pJ t U fu):=by
 unfold pJ
 repeat' (first|with_reducible (first|exact Sy.ret|assumption|apply gF|apply zk|apply eY|apply Il|apply Sy.bnd|apply Sy.seq|apply Sy.cond|apply Sy.ite|apply Sy.loop)|intro)
theorem Rw {U U':GP (List Nr)} {fu eZ:Nat} (hU:Le U U') (hfu:fu≤eZ):Le (qQ t U fu) (qQ t U' eZ):=by
 unfold qQ
 repeat' (first|with_reducible (first|exact Le.rfl|assumption|apply FU|apply Wy|apply gu|apply gV|apply eT|apply iB|apply eU)|intro)
theorem Im {U:GP (List Nr)} (fu:Nat) (hU:Sy U):Sy (qQ t U fu):=by
 unfold qQ
 repeat' (first|with_reducible (first|exact Sy.ret|assumption|apply Am|apply LC|apply Sy.bnd|apply Sy.seq|apply Sy.cond|apply Sy.ite|apply Sy.loop)|intro)
theorem Wz {U U':GP (List Nr)} {fu eZ:Nat} (hU:Le U U') (hfu:fu≤eZ):Le (tC t U fu) (tC t U' eZ):=by
 unfold tC
 repeat' (first|with_reducible (first|exact Le.rfl|assumption|apply FU|apply Rw|apply gu|apply gV|apply eT|apply iB|apply eU)|intro)
theorem LD {U:GP (List Nr)} (fu:Nat) (hU:Sy U):Sy (tC t U fu):=by
 unfold tC
 repeat' (first|with_reducible (first|exact Sy.ret|assumption|apply Am|apply Im|apply Sy.bnd|apply Sy.seq|apply Sy.cond|apply Sy.ite|apply Sy.loop)|intro)
theorem Rx {E E':GP (List Nr)} {U U':GP (List Nr)} {fu eZ:Nat} (hE:Le E E') (hU:Le U U') (hfu:fu≤eZ):Le (jN t E U fu) (jN t E' U' eZ):=by
 unfold jN
 repeat' (first|with_reducible (first|exact Le.rfl|assumption|apply Wz|apply gu|apply gV|apply eT|apply iB|apply eU)|intro)
theorem Io {E:GP (List Nr)} {U:GP (List Nr)} (fu:Nat) (hE:Sy E) (hU:Sy U):Sy (jN t E U fu):=by
 unfold jN
 repeat' (first|with_reducible (first|exact Sy.ret|assumption|apply ku|apply gF|apply eY|apply LD|apply Sy.bnd|apply Sy.seq|apply Sy.cond|apply Sy.ite|apply Sy.loop)|intro)
theorem OI {U U':GP (List Nr)} {P P':GP (List Nr)} (hU:Le U U') (hP:Le P P'):Le (eG t U P) (eG t U' P'):=by
 unfold eG
 repeat' (first|with_reducible (first|exact Le.rfl|assumption|apply gu|apply gV|apply eT|apply iB|apply eU)|intro)
theorem FV {U:GP (List Nr)} {P:GP (List Nr)} (hU:Sy U) (hP:Sy P):Sy (eG t U P):=by
 unfold eG
 repeat' (first|with_reducible (first|exact Sy.ret|assumption|apply gF|apply zk|apply eY|apply xY|apply Sy.bnd|apply Sy.seq|apply Sy.cond|apply Sy.ite|apply Sy.loop)|intro)
theorem KW {E E':GP (List Nr)} {P P':GP (List Nr)} {fu eZ:Nat} (hE:Le E E') (hP:Le P P') (hfu:fu≤eZ):Le (fK t E P fu) (fK t E' P' eZ):=by
 unfold fK
 repeat' (first|with_reducible (first|exact Le.rfl|assumption|apply zn|apply gu|apply gV|apply eT|apply iB|apply eU)|intro)
theorem Ce {E:GP (List Nr)} {P:GP (List Nr)} (fu:Nat) (hE:Sy E) (hP:Sy P):Sy (fK t E P fu):=by
 unfold fK
 repeat' (first|with_reducible (first|exact Sy.ret|assumption|apply oU|apply ku|apply mX|apply gF|apply BA|apply eY|apply kC|apply uH|apply Sy.bnd|apply Sy.seq|apply Sy.cond|apply Sy.ite|apply Sy.loop)|exact kr|intro)
theorem Cg {T T':GP (List Nr)} {fu eZ:Nat} (hT:Le T T') (hfu:fu≤eZ):Le (ig t T fu) (ig t T' eZ):=by
 unfold ig
 repeat' (first|with_reducible (first|exact Le.rfl|assumption|apply EW|apply gu|apply gV|apply eT|apply iB|apply eU)|intro)
theorem xL {T:GP (List Nr)} (fu:Nat) (hT:Sy T):Sy (ig t T fu):=by
 unfold ig
 repeat' (first|with_reducible (first|exact Sy.ret|assumption|apply oU|apply ku|apply BD|apply Sy.bnd|apply Sy.seq|apply Sy.cond|apply Sy.ite|apply Sy.loop)|intro)
theorem WA {T T':GP (List Nr)} {fu eZ:Nat} (hT:Le T T') (hfu:fu≤eZ):Le (iN t T fu) (iN t T' eZ):=by
 unfold iN
 repeat' (first|with_reducible (first|exact Le.rfl|assumption|apply zl|apply zn|apply Ww|apply Ru|apply gu|apply gV|apply eT|apply iB|apply eU)|intro)
theorem LG {T:GP (List Nr)} (fu:Nat) (hT:Sy T):Sy (iN t T fu):=by
 unfold iN
 repeat' (first|with_reducible (first|exact Sy.ret|assumption|apply gM|apply ku|apply mX|apply gF|apply eY|apply rV|apply uH|apply tF|apply xK|apply LA|apply Ik|apply Sy.bnd|apply Sy.seq|apply Sy.cond|apply Sy.ite|apply Sy.loop)|intro)
theorem OJ {L L':GP (List Nr)} {E E':GP (List Nr)} {P P':GP (List Nr)} {fu eZ:Nat} (hL:Le L L') (hE:Le E E') (hP:Le P P') (hfu:fu≤eZ):Le (kZ t L E P fu) (kZ t L' E' P' eZ):=by
 unfold kZ
 repeat' (first|with_reducible (first|exact Le.rfl|assumption|apply gu|apply gV|apply eT|apply iB|apply eU)|intro)
theorem FW {L:GP (List Nr)} {E:GP (List Nr)} {P:GP (List Nr)} (fu:Nat) (hL:Sy L) (hE:Sy E) (hP:Sy P):Sy (kZ t L E P fu):=by
 unfold kZ
 repeat' (first|with_reducible (first|exact Sy.ret|assumption|apply pY|apply gM|apply ku|apply gF|apply eY|apply Sy.bnd|apply Sy.seq|apply Sy.cond|apply Sy.ite|apply Sy.loop)|exact kr|intro)
theorem WB {T T':GP (List Nr)} {E E':GP (List Nr)} (hT:Le T T') (hE:Le E E'):Le (kL t T E) (kL t T' E'):=by
 unfold kL
 repeat' (first|with_reducible (first|exact Le.rfl|assumption|apply gu|apply gV|apply eT|apply iB|apply eU)|intro)
theorem LH {T:GP (List Nr)} {E:GP (List Nr)} (hT:Sy T) (hE:Sy E):Sy (kL t T E):=by
 unfold kL
 repeat' (first|with_reducible (first|exact Sy.ret|assumption|apply gM|apply gF|apply eY|apply kC|apply xY|apply Sy.bnd|apply Sy.seq|apply Sy.cond|apply Sy.ite|apply Sy.loop)|intro)
theorem Ip {fu eZ:Nat} (hfu:fu≤eZ):Le (jZ t fu) (jZ t eZ):=by
 unfold jZ
 repeat' (first|with_reducible (first|exact Le.rfl|assumption|apply gu|apply gV|apply eT|apply iB|apply eU)|intro)
theorem CV (fu:Nat):Sy (jZ t fu):=by
 unfold jZ
 repeat' (first|with_reducible (first|exact Sy.ret|assumption|apply gM|apply gF|apply eY|apply kC|apply Sy.bnd|apply Sy.seq|apply Sy.cond|apply Sy.ite|apply Sy.loop)|exact kr|intro)
theorem Np {T T':GP (List Nr)} {fu eZ:Nat} (hT:Le T T') (hfu:fu≤eZ):Le (iw t T fu) (iw t T' eZ):=by
 unfold iw
 repeat' (first|with_reducible (first|exact Le.rfl|assumption|apply gu|apply gV|apply eT|apply iB|apply eU)|intro)
theorem zq {T:GP (List Nr)} (fu:Nat) (hT:Sy T):Sy (iw t T fu):=by
 unfold iw
 repeat' (first|with_reducible (first|exact Sy.ret|assumption|apply gM|apply gF|apply eY|apply kC|apply xY|apply Sy.bnd|apply Sy.seq|apply Sy.cond|apply Sy.ite|apply Sy.loop)|exact kr|intro)
theorem DR {T T':GP (List Nr)} (hT:Le T T'):Le (dQ t T) (dQ t T'):=by
 unfold dQ
 repeat' (first|with_reducible (first|exact Le.rfl|assumption|apply gu|apply gV|apply eT|apply iB|apply eU)|intro)
theorem vU {T:GP (List Nr)} (hT:Sy T):Sy (dQ t T):=by
 unfold dQ
 repeat' (first|with_reducible (first|exact Sy.ret|assumption|apply gM|apply gF|apply Sy.bnd|apply Sy.seq|apply Sy.cond|apply Sy.ite|apply Sy.loop)|intro)
theorem Zm {E E':GP (List Nr)} {B B':GP (List Nr)} {J J':GP (List Nr)} (hE:Le E E') (hB:Le B B') (hJ:Le J J'):Le (rz t E B J) (rz t E' B' J'):=by
 unfold rz
 repeat' (first|with_reducible (first|exact Le.rfl|assumption|apply gu|apply gV|apply eT|apply iB|apply eU)|intro)
theorem OL {E:GP (List Nr)} {B:GP (List Nr)} {J:GP (List Nr)} (hE:Sy E) (hB:Sy B) (hJ:Sy J):Sy (rz t E B J):=by
 unfold rz
 repeat' (first|with_reducible (first|exact Sy.ret|assumption|apply gM|apply ku|apply gF|apply eY|apply Sy.bnd|apply Sy.seq|apply Sy.cond|apply Sy.ite|apply Sy.loop)|intro)
theorem OM {E E':GP (List Nr)} {Q Q':GP (List Nr)} {fu eZ:Nat} (hE:Le E E') (hQ:Le Q Q') (hfu:fu≤eZ):Le (mQ t E Q fu) (mQ t E' Q' eZ):=by
 unfold mQ
 repeat' (first|with_reducible (first|exact Le.rfl|assumption|apply gu|apply gV|apply eT|apply iB|apply eU)|intro)
theorem FX {E:GP (List Nr)} {Q:GP (List Nr)} (fu:Nat) (hE:Sy E) (hQ:Sy Q):Sy (mQ t E Q fu):=by
 unfold mQ
 repeat' (first|with_reducible (first|exact Sy.ret|assumption|apply gM|apply ku|apply gF|apply eY|apply Sy.bnd|apply Sy.seq|apply Sy.cond|apply Sy.ite|apply Sy.loop)|exact kr|intro)
theorem Ry {T T':GP (List Nr)} {E E':GP (List Nr)} {fu eZ:Nat} (hT:Le T T') (hE:Le E E') (hfu:fu≤eZ):Le (qx t T E fu) (qx t T' E' eZ):=by
 unfold qx
 repeat' (first|with_reducible (first|exact Le.rfl|assumption|apply zl|apply Cg|apply gu|apply gV|apply eT|apply iB|apply eU)|intro)
theorem Iq {T:GP (List Nr)} {E:GP (List Nr)} (fu:Nat) (hT:Sy T) (hE:Sy E):Sy (qx t T E fu):=by
 unfold qx
 repeat' (first|with_reducible (first|exact Sy.ret|assumption|apply gM|apply ku|apply gF|apply eY|apply kC|apply rV|apply xL|apply Sy.bnd|apply Sy.seq|apply Sy.cond|apply Sy.ite|apply Sy.loop)|exact kr|intro)
theorem KX {T T':GP (List Nr)} {B B':GP (List Nr)} {fu eZ:Nat} (hT:Le T T') (hB:Le B B') (hfu:fu≤eZ):Le (gI t T B fu) (gI t T' B' eZ):=by
 unfold gI
 repeat' (first|with_reducible (first|exact Le.rfl|assumption|apply Ip|apply Np|apply DR|apply gu|apply gV|apply eT|apply iB|apply eU)|intro)
theorem Ch {T:GP (List Nr)} {B:GP (List Nr)} (fu:Nat) (hT:Sy T) (hB:Sy B):Sy (gI t T B fu):=by
 unfold gI
 repeat' (first|with_reducible (first|exact Sy.ret|assumption|apply gF|apply eY|apply xK|apply CV|apply zq|apply vU|apply Sy.bnd|apply Sy.seq|apply Sy.cond|apply Sy.ite|apply Sy.loop)|intro)
theorem KY {Q Q':GP (List Nr)} {fu eZ:Nat} (hQ:Le Q Q') (hfu:fu≤eZ):Le (bN t Q fu) (bN t Q' eZ):=by
 unfold bN
 repeat' (first|with_reducible (first|exact Le.rfl|assumption|apply zl|apply zn|apply gu|apply gV|apply eT|apply iB|apply eU)|intro)
theorem Ci {Q:GP (List Nr)} (fu:Nat) (hQ:Sy Q):Sy (bN t Q fu):=by
 unfold bN
 repeat' (first|with_reducible (first|exact Sy.ret|assumption|apply oU|apply pY|apply gM|apply ku|apply mX|apply gF|apply BA|apply eY|apply kC|apply rV|apply uH|apply Sy.bnd|apply Sy.seq|apply Sy.cond|apply Sy.ite|apply Sy.loop)|exact kr|intro)
theorem Nq {T T':GP (List Nr)} {E E':GP (List Nr)} {B B':GP (List Nr)} {Q Q':GP (List Nr)} {J J':GP (List Nr)} {fu eZ:Nat} (hT:Le T T') (hE:Le E E') (hB:Le B B') (hQ:Le Q Q') (hJ:Le J J') (hfu:fu≤eZ):Le (bO t T E B Q J fu) (bO t T' E' B' Q' J' eZ):=by
 unfold bO
 repeat' (first|with_reducible (first|exact Le.rfl|assumption|apply Ip|apply DR|apply OM|apply Ry|apply KX|apply gu|apply gV|apply eT|apply iB|apply eU)|intro)
theorem DT {T:GP (List Nr)} {E:GP (List Nr)} {B:GP (List Nr)} {Q:GP (List Nr)} {J:GP (List Nr)} (fu:Nat) (hT:Sy T) (hE:Sy E) (hB:Sy B) (hQ:Sy Q) (hJ:Sy J):Sy (bO t T E B Q J fu):=by
 unfold bO
 repeat' (first|with_reducible (first|exact Sy.ret|assumption|apply oU|apply pY|apply ku|apply gF|apply zi|apply CV|apply vU|apply FX|apply Iq|apply Ch|apply Sy.bnd|apply Sy.seq|apply Sy.cond|apply Sy.ite|apply Sy.loop)|intro)
theorem KZ {T T':GP (List Nr)} {E E':GP (List Nr)} {B B':GP (List Nr)} {Q Q':GP (List Nr)} {J J':GP (List Nr)} {fu eZ:Nat} (hT:Le T T') (hE:Le E E') (hB:Le B B') (hQ:Le Q Q') (hJ:Le J J') (hfu:fu≤eZ):Le (aX t T E B Q J fu) (aX t T' E' B' Q' J' eZ):=by
 unfold aX
 repeat' (first|with_reducible (first|exact Le.rfl|assumption|apply zl|apply zn|apply Cg|apply Nq|apply gu|apply gV|apply eT|apply iB|apply eU)|intro)
theorem Cj {T:GP (List Nr)} {E:GP (List Nr)} {B:GP (List Nr)} {Q:GP (List Nr)} {J:GP (List Nr)} (fu:Nat) (hT:Sy T) (hE:Sy E) (hB:Sy B) (hQ:Sy Q) (hJ:Sy J):Sy (aX t T E B Q J fu):=by
 unfold aX
 repeat' (first|with_reducible (first|exact Sy.ret|assumption|apply oU|apply pY|apply gM|apply ku|apply gF|apply OH|apply BA|apply rV|apply uH|apply xL|apply DT|apply Sy.bnd|apply Sy.seq|apply Sy.cond|apply Sy.ite|apply Sy.loop)|exact kr|intro)
theorem CW {T:GP (List Nr)} (general:Bool) (fu:Nat) (hT:Sy T):Sy (fM t T general fu):=by
 unfold fM
 repeat' (first|with_reducible (first|exact Sy.ret|assumption|apply gF|apply eY|apply kC|apply wC|apply zq|apply vU|apply Sy.bnd|apply Sy.seq|apply Sy.cond|apply Sy.ite|apply Sy.loop)|intro)
theorem DU {T:GP (List Nr)} (p:Int) (m:Int) (fu:Nat) (hT:Sy T):Sy (jS t T p m fu):=by
 unfold jS
 repeat' (first|with_reducible (first|exact Sy.ret|assumption|apply gM|apply ku|apply gF|apply eY|apply kC|apply wC|apply Sy.bnd|apply Sy.seq|apply Sy.cond|apply Sy.ite|apply Sy.loop)|exact kr|intro)
theorem Ir {T:GP (List Nr)} (p:Int) (m:Int) (fu:Nat) (hT:Sy T):Sy (lX t T p m fu):=by
 unfold lX
 repeat' (first|with_reducible (first|exact Sy.ret|assumption|apply pY|apply gM|apply ku|apply gF|apply eY|apply kC|apply uH|apply wC|apply Sy.bnd|apply Sy.seq|apply Sy.cond|apply Sy.ite|apply Sy.loop)|exact kr|intro)
theorem Iu {T:GP (List Nr)} {B:GP (List Nr)} (fu:Nat) (hT:Sy T) (hB:Sy B):Sy (kg t T B fu):=by
 unfold kg
 repeat' (first|with_reducible (first|exact Sy.ret|assumption|apply gM|apply gF|apply eY|apply rV|apply wC|apply CW|apply Sy.bnd|apply Sy.seq|apply Sy.cond|apply Sy.ite|apply Sy.loop)|exact kr|intro)
theorem Iw {T:GP (List Nr)} {B:GP (List Nr)} (fu:Nat) (hT:Sy T) (hB:Sy B):Sy (eO t T B fu):=by
 unfold eO
 repeat' (first|with_reducible (first|exact Sy.ret|assumption|apply oU|apply gM|apply ku|apply gF|apply eY|apply kC|apply CW|apply DU|apply Ir|apply Iu|apply Sy.bnd|apply Sy.seq|apply Sy.cond|apply Sy.ite|apply Sy.loop)|exact kr|intro)
theorem Ns {T:GP (List Nr)} {B:GP (List Nr)} (fu:Nat) (hT:Sy T) (hB:Sy B):Sy (je t T B fu):=by
 unfold je
 repeat' (first|with_reducible (first|exact Sy.ret|assumption|apply gM|apply ku|apply gF|apply eY|apply kC|apply Iw|apply Sy.bnd|apply Sy.seq|apply Sy.cond|apply Sy.ite|apply Sy.loop)|exact kr|intro)
theorem Ui:∀(n n' fn:Nat),n≤n'→Le (gG t n fn) (gG t n' fn)
 |0,_,_,_=>fun _ _ h=>by simp[gG] at h
 |n+1,0,_,h=>by omega
 |n+1,n'+1,fn,h=>by
  have ih:=fun fn=>Ui n n' fn (by omega)
  have hn:n≤n':=by omega
  match fn with
  |0=>exact WA t (ih 0) hn
  |1=>exact Rx t (ih 1) (ih 2) hn
  |2=>exact OI t (ih 2) (KW t (ih 1) (ih 6) hn)
  |3=>exact OJ t (WB t (ih 0) (ih 1)) (ih 1) (ih 6) hn
  |4=>exact Zm t (ih 1) (ih 3) (ih 4)
  |5=>exact KY t (ih 5) hn
  |_+6=>exact KZ t (ih 0) (ih 1) (ih 3) (ih 5) (ih 4) hn
theorem dM:∀(n fn:Nat),Sy (gG t n fn)
 |0,_=>fun _ _ h=>by simp[gG] at h
 |n+1,fn=>by
  have ih:=dM n
  match fn with
  |0=>exact LG t n (ih 0)
  |1=>exact Io t n (ih 1) (ih 2)
  |2=>exact FV t (ih 2) (Ce t n (ih 1) (ih 6))
  |3=>exact FW t n (LH t (ih 0) (ih 1)) (ih 1) (ih 6)
  |4=>exact OL t (ih 1) (ih 3) (ih 4)
  |5=>exact Ci t n (ih 5)
  |_+6=>exact Cj t n (ih 0) (ih 1) (ih 3) (ih 5) (ih 4)
end
end Go.Proofs.YtdplogkmkgekdaaGreatDoor
