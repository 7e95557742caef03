/- How many nodes a tree has, by how many tokens were read. -/
import Derived.Test.YtdplogkmkgekdaaGreatDoorBkp
set_option linter.all false
set_option maxRecDepth 100000
set_option maxHeartbeats 4000000
namespace Go.Proofs.YtdplogkmkgekdaaGreatDoor.Bk
theorem yO {k p n m:Int} {s:ByteArray} {F:List (List Nr)}:(nd k p n m s F).length=1+F.flatten.length:=by unfold nd;rw[List.length_cons];omega
theorem zP {k p:Int} {F:List (List Nr)}:(jv k p F).length≤1+F.flatten.length:=by
 by_cases h:F.length=1
 ·obtain⟨y,rfl⟩:∃y,F=[y]:=List.length_eq_one_iff.1 h
  show y.length≤_
  simp
 ·rw[oh h,yO]
  exact Nat.le_refl _
theorem cnt {p:Prop} (h:p:=by simp only[yO,List.flatten_cons,List.flatten_nil,List.flatten_append,List.length_append,List.length_nil,List.length_cons,List.append_nil];omega):p:=h
section
variable {t:Tk} {T E B Q J U P X:GP (List Nr)} {fu:Nat} {k:Int} {w e:ByteArray} {ss:List ByteArray}
abbrev CX (E:GP (List Nr)):Prop:=(∀i,wp E (fun x j=>x.length+5≤100*(j - i)) i)∧Sy E
abbrev cL (i:Nat) (F:List (List Nr)) (j:Nat):Prop:=F.flatten.length≤100*(j - i)∧i≤j
theorem Oi (hX:CX X) (i:Nat) (o:List (List Nr)):wp (qj t X e fu o) (fun F j=>F.flatten.length≤o.flatten.length+100*(j - i)∧i<j) i:=by
 have sX:=hX.2
 obtain⟨c,hc⟩:∃c,c=o.flatten.length:=⟨_,rfl⟩
 rw[←hc]
 have hs:∀o,Sy (gH t X e o):=fun _=>by unfold gH;exact aA
 show wp (loop (gH t X e) fu o) _ i
 refine wp_loop (I:=fun F j=>F.flatten.length≤c+100*(j - i)∧i≤j) hs ?_ fu o i ⟨Nat.le_trans (Nat.le_of_eq hc.symm) (Nat.le_add_right _ _),Nat.le_refl _⟩
 clear hc
 rintro x j ⟨h1,h2⟩
 unfold gH
 refine fF (wp_cond (fun _=>av (hX.1 j) (fun _=>aA) fun y j2 hy=>?_) (fun h=>by cases h))
 have key:(x++[y]).flatten.length≤c+100*(j2+1 - i)∧i<j2+1:=by
  simp only[List.flatten_append,List.flatten_cons,List.flatten_nil,List.length_append,List.append_nil]
  omega
 exact aZ (fun _=>wp_cond (fun _=>wp_ret ⟨(fun h=>by cases h),fun _=>key⟩) (fun h=>by cases h)) (fun _=>wp_cond (fun h=>by cases h) (fun _=>aO aA (fun _=>wp_ret ⟨fun _=>⟨key.1,Nat.le_of_lt key.2⟩,(fun h=>by cases h)⟩)))
theorem yP (hX:CX X) (i:Nat):wp (fC t X e fu) (fun F j=>F.flatten.length≤100*(j - i)∧i<j) i:=by
 unfold fC
 refine aZ (fun _=>wp_cond (fun _=>wp_ret ⟨cnt,by omega⟩) (fun h=>by cases h)) (fun _=>wp_cond (fun h=>by cases h) (fun _=>(Oi hX _ _).mono ?_))
 rintro F j ⟨h1,h2⟩
 simp only[List.flatten_nil,List.length_nil] at h1
 exact⟨by omega,h2⟩
theorem acj {β:Type} {Q:β→Nat→Prop} {f:ByteArray→GP β} (hg:GT t) (hs:∀s,Sy (f s)) {i:Nat} (h:∀s j,i≤j→wp (f s) Q j):wp (bnd (fB t 0 4) (fun b=>bnd (cond b (dW t) (ret E0)) f)) Q i:=by
 refine jq ?_
 exact av (R:=fun s j=>i≤j) (wp_cond (fun _=>(zM hg i).mono fun s j h=>by omega) (fun _=>wp_ret (Nat.le_refl _))) hs (fun s j hs=>h s j hs)
theorem EH {i:Nat}:wp (jC t) (fun _ j=>i≤j) i:=by
 unfold jC
 exact aZ (fun _=>wp_cond (fun _=>wp_ret (by omega)) (fun h=>by cases h)) (fun _=>wp_cond (fun h=>by cases h) (fun _=>wp_ret (Nat.le_refl _)))
theorem acn {i:Nat}:wp (jR t) (fun _ j=>i≤j) i:=by
 unfold jR
 exact aZ (fun _=>wp_cond (fun _=>wp_ret (by omega)) (fun h=>by cases h)) (fun _=>wp_cond (fun h=>by cases h) (fun _=>aZ (fun _=>wp_cond (fun _=>wp_ret (by omega)) (fun h=>by cases h)) (fun _=>wp_cond (fun h=>by cases h) (fun _=>wp_ret (Nat.le_refl _)))))
theorem aen (hg:GT t) (hT:CX T) (i:Nat):wp (pI t T) (fun x j=>x.length+5≤100*(j - i)) i:=by
 have sT:=hT.2
 unfold pI
 refine bM (bJ (fq (acj hg (fun _=>aA) fun s j hj=>?_)))
 refine av EH (fun _=>aA) fun n j2 h2=>av (hT.1 _) (fun _=>aA) fun y j3 h3=>?_
 exact wp_cond (fun _=>wp_ret cnt) (fun _=>wp_ret cnt)
theorem aco (hg:GT t) (hT:CX T) (i:Nat):wp (qw t T fu) (fun F j=>F.flatten.length≤100*(j - i)∧i≤j) i:=by
 have sT:=hT.2
 unfold qw
 refine av (R:=fun x j=>cL i x.1 j) (wp_loop (I:=fun x j=>cL i x.1 j) (fun _=>aA) ?_ fu _ _ ⟨cnt,Nat.le_refl _⟩) (fun _=>aA) ?_
 ·rintro x j ⟨h1,h2⟩
  refine jq (wp_cond (fun _=>av (yI hg j) (fun _=>aA) ?_) (fun _=>wp_ret ⟨(fun h=>by cases h),fun _=>⟨h1,h2⟩⟩))
  rintro y j2 ⟨⟨p,s,hs,rfl⟩,rfl,-⟩
  exact aZ (fun _=>wp_cond (fun _=>wp_ret ⟨(fun h=>by cases h),fun _=>⟨cnt,by omega⟩⟩) (fun h=>by cases h)) (fun _=>wp_cond (fun h=>by cases h) (fun _=>aO aA fun _=>wp_ret ⟨fun _=>⟨cnt,by omega⟩,(fun h=>by cases h)⟩))
 ·rintro x j ⟨h1,h2⟩
  refine wp_cond (fun _=>wp_ret ⟨h1,h2⟩) (fun _=>(Oi hT _ _).mono ?_)
  rintro F j2 ⟨h3,h4⟩
  exact⟨by omega,by omega⟩
theorem aeo (hg:GT t) (hT:CX T) (i:Nat):wp (iN t T fu) (fun x j=>x.length+5≤100*(j - i)) i:=by
 have sT:=hT.2
 unfold iN
 refine bM (aZ (fun _=>wp_cond (fun _=>wp_ret cnt) (fun h=>by cases h)) (fun _=>wp_cond (fun h=>by cases h) (fun _=>?_)))
 refine aZ (fun _=>wp_cond (fun _=>wp_ret cnt) (fun h=>by cases h)) (fun _=>wp_cond (fun h=>by cases h) (fun _=>?_))
 refine aZ (fun _=>wp_cond (fun _=>av (yP hT _) (fun _=>aA) fun F j hF=>wp_ret ?_) (fun h=>by cases h)) (fun _=>wp_cond (fun h=>by cases h) (fun _=>?_))
 ·have:=zP (k:=15) (p:=t.pos i) (F:=F)
  omega
 refine bJ (bJ (wp_cond (fun _=>aen hg hT i) (fun _=>?_)))
 refine aZ (fun _=>wp_cond (fun _=>?_) (fun h=>by cases h)) (fun _=>wp_cond (fun h=>by cases h) (fun _=>?_))
 ·refine acj hg (fun _=>aA) fun s j hs=>?_
  refine av acn (fun _=>aA) fun n j2 hn=>aO aA fun _=>?_
  refine av (yP hT _) (fun _=>aA) fun F j3 hF=>aO aA fun _=>?_
  exact av (hT.1 _) (fun _=>aA) fun y j4 hy=>wp_ret cnt
 ·refine av (nV hg (by decide) _) (fun _=>aA) ?_
  rintro s j ⟨-,h1,-⟩
  exact aZ (fun _=>wp_cond (fun _=>av (aco hg hT _) (fun _=>aA) fun F j2 hF=>wp_ret cnt) (fun h=>by cases h)) (fun _=>wp_cond (fun h=>by cases h) (fun _=>wp_ret cnt))
theorem aep (hg:GT t) (hT:CX T) (i:Nat):wp (bN t T fu) (fun x j=>x.length+5≤100*(j - i)) i:=by
 have sT:=hT.2
 unfold bN
 refine bM (aZ (fun _=>wp_cond (fun _=>wp_ret cnt) (fun h=>by cases h)) (fun _=>wp_cond (fun h=>by cases h) (fun _=>?_)))
 refine aZ (fun _=>wp_cond (fun _=>jq (wp_cond (fun _=>vE (fq (wp_ret cnt))) (fun _=>qL aA))) (fun h=>by cases h)) (fun _=>wp_cond (fun h=>by cases h) (fun _=>?_))
 refine jq (wp_cond (fun _=>vE (fq (wp_ret cnt))) (fun _=>?_))
 refine bJ (bJ (wp_cond (fun _=>aZ (fun _=>wp_cond (fun _=>wp_ret cnt) (fun h=>by cases h)) (fun _=>wp_cond (fun h=>by cases h) (fun _=>aO aA fun _=>wp_ret cnt))) (fun _=>?_)))
 refine aZ (fun _=>wp_cond (fun _=>av (yP hT _) (fun _=>aA) fun F j hF=>wp_ret ?_) (fun h=>by cases h)) (fun _=>wp_cond (fun h=>by cases h) (fun _=>?_))
 ·have:=zP (k:=53) (p:=t.pos i) (F:=F)
  omega
 refine bJ (bJ (wp_cond (fun _=>?_) (fun _=>?_)))
 ·refine aZ (fun _=>wp_cond (fun _=>?_) (fun h=>by cases h)) (fun _=>wp_cond (fun h=>by cases h) (fun _=>?_))
  ·exact aZ (fun _=>wp_cond (fun _=>dF hg (fun _=>aA) fun s hs _=>wp_ret cnt) (fun h=>by cases h)) (fun _=>wp_cond (fun h=>by cases h) (fun _=>dF hg (fun _=>aA) fun s hs _=>wp_ret cnt))
  ·exact aO aA fun _=>dF hg (fun _=>aA) fun s hs _=>wp_ret cnt
 ·refine av (nV hg (by decide) _) (fun _=>aA) ?_
  rintro s j ⟨-,h1,-⟩
  refine fF (wp_cond (fun hc=>wp_ret cnt) (fun hc=>?_))
  refine bJ (wp_cond (fun _=>aO aA fun _=>bJ ?_) (fun _=>wp_ret cnt))
  refine av (R:=fun _ j2=>j+1≤j2) (wp_cond (fun _=>fun a r h1 h2=>by
   obtain rfl:((),(⟨j+1,4,t.pos (j+1)⟩:Rs))=r:=by simpa[jB] using h1
   exact Nat.le_refl _) (fun _=>wp_ret (Nat.le_refl _))) (fun _=>aA) fun _ j2 h2=>?_
  exact av (yP hT _) (fun _=>aA) fun F j hF=>wp_ret cnt
theorem Vt (hX:CX X) (i:Nat):wp (mD t ss X fu) (fun x j=>x.length+5≤100*(j - i)) i:=by
 have sX:=hX.2
 unfold mD
 refine av (hX.1 i) (fun _=>aA) fun l j hl=>?_
 refine wp_loop (I:=fun x j=>x.length+5≤100*(j - i)) (fun _=>aA) ?_ fu l j hl
 intro l j hl
 refine fF (wp_cond (fun _=>wh fun v hv=>?_) (fun h=>by cases h))
 exact wp_cond (fun _=>wp_ret ⟨(fun h=>by cases h),fun _=>hl⟩) (fun h0=>bM (aO aA fun _=>av (hX.1 _) (fun _=>aA) fun r j2 hr=>wp_ret ⟨fun _=>cnt,(fun h=>by cases h)⟩))
theorem acp (hX:CX X) (i:Nat):wp (oO t k w X fu) (fun x j=>x.length+5≤100*(j - i)) i:=by
 have sX:=hX.2
 unfold oO
 refine av (hX.1 i) (fun _=>aA) fun l j hl=>?_
 refine wp_loop (I:=fun x j=>x.length+5≤100*(j - i)) (fun _=>aA) ?_ fu l j hl
 intro l j hl
 exact fF (bJ (wp_cond (fun _=>bM (aO aA fun _=>av (hX.1 _) (fun _=>aA) fun r j2 hr=>wp_ret ⟨fun _=>cnt,(fun h=>by cases h)⟩)) (fun _=>wp_ret ⟨(fun h=>by cases h),fun _=>hl⟩)))
theorem aer (hU:CX U):CX (vH t U fu):=by
 have sU:=hU.2
 exact⟨fun i=>Vt hU i,aA⟩
theorem aes (hU:CX U):CX (kX t U fu):=by
 have sU:=hU.2
 exact⟨fun i=>Vt (aer hU) i,aA⟩
theorem aeu (hU:CX U):CX (pJ t U fu):=by
 have sU:=hU.2
 have hA:CX (kX t U fu):=aes hU
 refine⟨fun i=>?_,aA⟩
 unfold pJ
 refine av (hA.1 i) (fun _=>aA) fun l j hl=>wh fun v hv=>?_
 exact wp_cond (fun _=>wp_ret hl) (fun h0=>bM (aO aA fun _=>av (hA.1 _) (fun _=>aA) fun r j2 hr=>wp_ret cnt))
theorem aev (hU:CX U):CX (qQ t U fu):=by
 have sU:=hU.2
 exact⟨fun i=>acp (aeu hU) i,aA⟩
theorem afu (hU:CX U):CX (tC t U fu):=by
 have sU:=hU.2
 exact⟨fun i=>acp (aev hU) i,aA⟩
theorem aew (hE:CX E) (hU:CX U):CX (jN t E U fu):=by
 have sU:=hU.2
 have sE:=hE.2
 refine⟨fun i=>?_,aA⟩
 unfold jN
 exact av ((afu hU).1 i) (fun _=>aA) fun l j hl=>bJ (wp_cond (fun _=>bM (aO aA fun _=>av (hE.1 _) (fun _=>aA) fun r j2 hr=>wp_ret cnt)) (fun _=>wp_ret hl))
theorem aex (hU:CX U) (hP:CX P):CX (eG t U P):=by
 have sU:=hU.2
 have sP:=hP.2
 refine⟨fun i=>?_,aA⟩
 unfold eG
 refine bM (wh fun v hv=>wp_cond (fun _=>hP.1 i) (fun h0=>aO aA fun _=>?_))
 refine wp_cond (fun h1=>av (hU.1 _) (fun _=>aA) fun y j hy=>wp_ret cnt) (fun _=>?_)
 refine wp_cond (fun h1=>av (hU.1 _) (fun _=>aA) fun y j hy=>wp_ret cnt) (fun _=>?_)
 refine wp_cond (fun h1=>av EH (fun _=>aA) fun n j hn=>av (hU.1 _) (fun _=>aA) fun y j2 hy=>wp_ret cnt) (fun _=>?_)
 exact av EH (fun _=>aA) fun n j hn=>av (hU.1 _) (fun _=>aA) fun y j2 hy=>wp_ret cnt
theorem acr (hg:GT t) (hE:CX E) (hP:CX P):CX (fK t E P fu):=by
 have sE:=hE.2
 have sP:=hP.2
 refine⟨fun i=>?_,aA⟩
 unfold fK
 refine av (hP.1 i) (fun _=>aA) fun e j he=>?_
 refine wp_loop (I:=fun x j=>x.length+5≤100*(j - i)) (fun _=>aA) ?_ fu e j he
 intro e j he
 refine fF (wp_cond (fun _=>bJ (wp_cond (fun _=>bM (aO aA fun _=>av (yP hE _) (fun _=>aA) fun F j2 hF=>wp_ret ⟨fun _=>cnt,(fun h=>by cases h)⟩)) (fun _=>?_))) (fun h=>by cases h))
 refine bJ (wp_cond (fun _=>bM (aO aA fun _=>jq (wp_cond (fun _=>?_) (fun _=>?_)))) (fun _=>wp_ret ⟨(fun h=>by cases h),fun _=>he⟩))
 ·exact vE (fq (wp_ret ⟨fun _=>cnt,(fun h=>by cases h)⟩))
 ·exact dF hg (fun _=>aA) fun s hs _=>wp_ret ⟨fun _=>cnt,(fun h=>by cases h)⟩
theorem GQ (hT:CX T) (i:Nat):wp (ig t T fu) (fun F j=>F.flatten.length≤100*(j - i)∧i≤j) i:=by
 unfold ig
 refine bJ (bJ (wp_cond (fun _=>fq ((Oi hT _ _).mono ?_)) (fun _=>wp_ret ⟨cnt,Nat.le_refl _⟩)))
 rintro F j ⟨h1,h2⟩
 simp only[List.flatten_nil,List.length_nil] at h1
 exact⟨by omega,by omega⟩
theorem afv (hE:CX E) (hB:CX B) (hJ:CX J):CX (rz t E B J):=by
 have sE:=hE.2
 have sB:=hB.2
 have sJ:=hJ.2
 refine⟨fun i=>?_,aA⟩
 unfold rz
 refine bM (aO aA fun _=>av (hE.1 _) (fun _=>aA) fun c j hc=>av (hB.1 _) (fun _=>aA) fun y j2 hy=>?_)
 refine aZ (fun _=>wp_cond (fun _=>bJ ?_) (fun h=>by cases h)) (fun _=>wp_cond (fun h=>by cases h) (fun _=>wp_ret cnt))
 exact av (R:=fun z j3=>z.length+5≤100*(j3 - (j2+1))) (wp_cond (fun _=>hJ.1 _) (fun _=>hB.1 _)) (fun _=>aA) fun z j3 hz=>wp_ret cnt
theorem xJ {β:Type} {R:β→Nat→Prop} {i:Nat} {f:Bool→GP β} (hs:∀b,Sy (f b)) (h1:wp (f true) R (i+1)) (h0:wp (f false) R i):wp (bnd (cond true (aY t ⟨#[125]⟩) (ret true)) f) R i:=
 aZ (fun _=>h1) (fun _=>h0)
theorem Yy (hE:CX E) (hQ:CX Q) (i:Nat):wp (mQ t E Q fu) (fun x j=>x.length+5≤100*(j - i)) i:=by
 have sE:=hE.2
 have sQ:=hQ.2
 unfold mQ
 refine bM (aO aA fun _=>av (hE.1 _) (fun _=>aA) fun c j hc=>aO aA fun _=>?_)
 refine av (R:=fun r j=>r.flatten.length≤100*(j - (i+1))∧i+1≤j) (wp_loop (I:=fun r j=>r.flatten.length≤100*(j - (i+1))∧i+1≤j) (fun _=>aA) ?_ fu _ _ ⟨cnt,by omega⟩) (fun _=>aA) (fun r j2 h=>wp_ret cnt)
 rintro o j2 ⟨h1,h2⟩
 refine fF (xJ (fun _=>aA) (wp_cond (fun _=>wp_ret ⟨(fun h=>by cases h),fun _=>⟨cnt,by omega⟩⟩) (fun h=>by cases h)) (wp_cond (fun h=>by cases h) (fun _=>bM ?_)))
 refine av (hQ.1 _) (fun _=>aA) fun y j4 hy=>aO aA fun _=>av (hE.1 _) (fun _=>aA) fun z j5 hz=>?_
 exact bJ (wp_cond (fun _=>wp_ret ⟨fun _=>⟨cnt,by omega⟩,(fun h=>by cases h)⟩) (fun _=>aO aA fun _=>wp_ret ⟨fun _=>⟨cnt,by omega⟩,(fun h=>by cases h)⟩))
theorem acs (hg:GT t) (hT:CX T) (hE:CX E) (i:Nat):wp (qx t T E fu) (fun x j=>x.length+5≤100*(j - i)) i:=by
 have sE:=hE.2
 have sT:=hT.2
 unfold qx
 refine bM (aO aA fun _=>av (nV hg (by decide) _) (fun _=>aA) ?_)
 rintro s j ⟨-,h0,-⟩
 refine av (GQ hT _) (fun _=>aA) fun w j2 hw=>aO aA fun _=>?_
 refine av (R:=fun r j=>r.flatten.length≤100*(j - (i+1))∧i+1≤j) (wp_loop (I:=fun r j=>r.flatten.length≤100*(j - (i+1))∧i+1≤j) (fun _=>aA) ?_ fu _ _ ⟨by omega,by omega⟩) (fun _=>aA) (fun r j2 h=>wp_ret cnt)
 rintro o j2 ⟨h1,h2⟩
 refine fF (xJ (fun _=>aA) (wp_cond (fun _=>wp_ret ⟨(fun h=>by cases h),fun _=>⟨cnt,by omega⟩⟩) (fun h=>by cases h)) (wp_cond (fun h=>by cases h) (fun _=>bM ?_)))
 refine dF hg (fun _=>aA) fun s2 hs _=>aO aA fun _=>av (hE.1 _) (fun _=>aA) fun z j5 hz=>?_
 exact bJ (wp_cond (fun _=>wp_ret ⟨fun _=>⟨cnt,by omega⟩,(fun h=>by cases h)⟩) (fun _=>aO aA fun _=>wp_ret ⟨fun _=>⟨cnt,by omega⟩,(fun h=>by cases h)⟩))
theorem QV (hg:GT t) (i:Nat):wp (jZ t fu) (fun F j=>F.flatten.length≤100*(j - i)∧i<j) i:=by
 unfold jZ
 refine aO aA fun _=>aZ (fun _=>wp_cond (fun _=>wp_ret ⟨cnt,by omega⟩) (fun h=>by cases h)) (fun _=>wp_cond (fun h=>by cases h) (fun _=>?_))
 refine(wp_loop (I:=fun F j=>cL (i+1) F j) (J:=fun F j=>cL (i+1) F j) (fun _=>aA) ?_ fu _ _ ⟨cnt,Nat.le_refl _⟩).mono fun F j h=>⟨by omega,by omega⟩
 rintro o j ⟨h1,h2⟩
 refine fF (wp_cond (fun _=>bM ?_) (fun h=>by cases h))
 refine av (R:=fun _ j2=>j≤j2) ?_ (fun _=>aA) fun n j2 hn=>?_
 ·refine aZ (fun _=>wp_cond (fun _=>aZ (fun _=>wp_cond (fun _=>wp_ret (by omega)) (fun h=>by cases h)) (fun _=>wp_cond (fun h=>by cases h) (fun _=>wp_ret (by omega)))) (fun h=>by cases h)) (fun _=>wp_cond (fun h=>by cases h) (fun _=>wp_ret (by omega)))
 ·refine dF hg (fun _=>aA) fun s hs _=>?_
  exact aZ (fun _=>wp_cond (fun _=>wp_ret ⟨(fun h=>by cases h),fun _=>⟨cnt,by omega⟩⟩) (fun h=>by cases h)) (fun _=>wp_cond (fun h=>by cases h) (fun _=>aO aA fun _=>wp_ret ⟨fun _=>⟨cnt,by omega⟩,(fun h=>by cases h)⟩))
theorem QW (hg:GT t) (hT:CX T) (i:Nat):wp (iw t T fu) (fun F j=>F.flatten.length≤100*(j - i)∧i<j) i:=by
 have sT:=hT.2
 unfold iw
 refine aO aA fun _=>aZ (fun _=>wp_cond (fun _=>wp_ret ⟨cnt,by omega⟩) (fun h=>by cases h)) (fun _=>wp_cond (fun h=>by cases h) (fun _=>?_))
 refine(wp_loop (I:=fun F j=>cL (i+1) F j) (J:=fun F j=>cL (i+1) F j) (fun _=>aA) ?_ fu _ _ ⟨cnt,Nat.le_refl _⟩).mono fun F j h=>⟨by omega,by omega⟩
 rintro o j ⟨h1,h2⟩
 refine fF (wp_cond (fun _=>bM ?_) (fun h=>by cases h))
 refine av EH (fun _=>aA) fun m j2 hm=>dF hg (fun _=>aA) fun s hs _=>aO aA fun _=>?_
 refine av (hT.1 _) (fun _=>aA) fun y j3 hy=>?_
 exact aZ (fun _=>wp_cond (fun _=>wp_ret ⟨(fun h=>by cases h),fun _=>⟨cnt,by omega⟩⟩) (fun h=>by cases h)) (fun _=>wp_cond (fun h=>by cases h) (fun _=>aO aA fun _=>wp_ret ⟨fun _=>⟨cnt,by omega⟩,(fun h=>by cases h)⟩))
theorem Oj (hT:CX T) (i:Nat):wp (dQ t T) (fun x j=>x.length≤1+100*(j - i)∧i≤j) i:=by
 unfold dQ
 exact bM (aZ (fun _=>wp_cond (fun _=>(hT.1 _).mono fun x j h=>⟨by omega,by omega⟩) (fun h=>by cases h)) (fun _=>wp_cond (fun h=>by cases h) (fun _=>wp_ret ⟨cnt,Nat.le_refl _⟩)))
theorem acu (hg:GT t) (hT:CX T) (hB:CX B) (i:Nat):wp (gI t T B fu) (fun x j=>x.length+5≤100*(j - i)) i:=by
 have sT:=hT.2
 have sB:=hB.2
 unfold gI
 refine bM (aO aA fun _=>av acn (fun _=>aA) fun n j hn=>av (QV hg _) (fun _=>aA) fun C j2 hC=>?_)
 exact av (QW hg hT _) (fun _=>aA) fun P j3 hP=>av (Oj hT _) (fun _=>aA) fun y j4 hy=>av (hB.1 _) (fun _=>aA) fun z j5 hz=>wp_ret cnt
theorem Tt (hg:GT t) (hT:CX T) (hE:CX E) (hB:CX B) (hQ:CX Q) (hJ:CX J) (i:Nat):wp (bO t T E B Q J fu) (fun x j=>x.length+5≤100*(j - i)) i:=by
 have sT:=hT.2
 have sE:=hE.2
 have sB:=hB.2
 have sQ:=hQ.2
 have sJ:=hJ.2
 unfold bO
 refine bM (BK ?_)
 refine wp_cond (fun _=>fq (wp_ret cnt)) (fun _=>?_)
 refine wp_cond (fun _=>fq (wp_ret cnt)) (fun _=>?_)
 refine wp_cond (fun _=>fq (wp_ret cnt)) (fun _=>?_)
 refine wp_cond (fun _=>fq (wp_ret cnt)) (fun _=>?_)
 refine wp_cond (fun _=>fq (wp_ret cnt)) (fun _=>?_)
 refine wp_cond (fun _=>fq (bJ (bJ (bJ (bJ (bJ (wp_cond (fun _=>wp_ret cnt) (fun _=>av (hE.1 _) (fun _=>aA) fun y j hy=>wp_ret cnt)))))))) (fun _=>?_)
 refine wp_cond (fun _=>hJ.1 _) (fun _=>?_)
 refine wp_cond (fun _=>Yy hE hQ _) (fun _=>?_)
 refine wp_cond (fun _=>fq (av (hE.1 _) (fun _=>aA) fun c j hc=>av (hB.1 _) (fun _=>aA) fun y j2 hy=>wp_ret cnt)) (fun _=>?_)
 refine wp_cond (fun _=>fq (av (hB.1 _) (fun _=>aA) fun y j2 hy=>wp_ret cnt)) (fun _=>?_)
 refine wp_cond (fun _=>acs hg hT hE _) (fun _=>?_)
 refine wp_cond (fun _=>acu hg hT hB _) (fun _=>?_)
 refine wp_cond (fun _=>fq (av (QV hg _) (fun _=>aA) fun C j hC=>av (Oj hT _) (fun _=>aA) fun y j4 hy=>av (hB.1 _) (fun _=>aA) fun z j5 hz=>wp_ret cnt)) (fun _=>?_)
 exact qL aA
theorem acv (hg:GT t) (hT:CX T) (hE:CX E) (hB:CX B) (hQ:CX Q) (hJ:CX J):CX (aX t T E B Q J fu):=by
 have sT:=hT.2
 have sE:=hE.2
 have sB:=hB.2
 have sQ:=hQ.2
 have sJ:=hJ.2
 refine⟨fun i=>?_,aA⟩
 unfold aX
 refine bM (fF (wp_cond (fun _=>Va ?_) (fun h=>by cases h)))
 refine wp_cond (fun _=>vE (fq (wp_ret cnt))) (fun _=>?_)
 refine wp_cond (fun _=>av (nV hg (by decide) _) (fun _=>aA) ?_) (fun _=>?_)
 ·rintro s j ⟨-,h0,-⟩
  exact av (GQ hT _) (fun _=>aA) fun F j2 hF=>wp_ret cnt
 refine aZ (fun _=>wp_cond (fun _=>av (yP hE _) (fun _=>aA) fun F j hF=>wp_ret ?_) (fun h=>by cases h)) (fun _=>wp_cond (fun h=>by cases h) (fun _=>?_))
 ·have:=zP (k:=22) (p:=t.pos i) (F:=F)
  omega
 refine bJ (wp_cond (fun _=>hB.1 _) (fun _=>?_))
 exact wp_cond (fun _=>Tt hg hT hE hB hQ hJ _) (fun _=>qL aA)
theorem aey (hg:GT t) (hT:CX T) (hE:CX E) (i:Nat):wp (kL t T E) (fun x j=>x.length+5≤100*(j - i)) i:=by
 have sT:=hT.2
 have sE:=hE.2
 unfold kL
 refine bM (aO aA fun _=>av EH (fun _=>aA) fun m j hm=>dF hg (fun _=>aA) fun s hs _=>?_)
 refine aZ (fun _=>wp_cond (fun _=>av (hT.1 _) (fun _=>aA) fun y j2 hy=>?_) (fun h=>by cases h)) (fun _=>wp_cond (fun h=>by cases h) (fun _=>?_))
 ·exact aZ (fun _=>wp_cond (fun _=>av (hE.1 _) (fun _=>aA) fun z j3 hz=>wp_ret cnt) (fun h=>by cases h)) (fun _=>wp_cond (fun h=>by cases h) (fun _=>wp_ret cnt))
 ·exact aZ (fun _=>wp_cond (fun _=>av (hE.1 _) (fun _=>aA) fun z j3 hz=>wp_ret cnt) (fun h=>by cases h)) (fun _=>wp_cond (fun h=>by cases h) (fun _=>wp_ret cnt))
theorem Yz {Lt:GP (List Nr)} (hL:CX Lt) (hE:CX E) (hP:CX P):CX (kZ t Lt E P fu):=by
 have sL:=hL.2
 have sE:=hE.2
 have sP:=hP.2
 refine⟨fun i=>?_,aA⟩
 unfold kZ
 refine bM (aO aA fun _=>?_)
 refine av (R:=fun x j=>cL (i+1) x.1 j) (wp_loop (I:=fun x j=>cL (i+1) x.1 j) (fun _=>aA) ?_ fu _ _ ⟨cnt,Nat.le_refl _⟩) (fun _=>aA) (fun x j hx=>wp_ret cnt)
 rintro⟨o,v⟩ j ⟨h1,h2⟩
 have h1:o.flatten.length≤100*(j - (i+1)):=h1
 have h2:i+1≤j:=h2
 refine fF (xJ (fun _=>aA) (wp_cond (fun _=>wp_ret ⟨(fun h=>by cases h),fun _=>⟨cnt,by omega⟩⟩) (fun h=>by cases h)) (wp_cond (fun h=>by cases h) (fun _=>?_)))
 refine bJ (wp_cond (fun _=>av (hL.1 _) (fun _=>aA) fun y j3 hy=>aO aA fun _=>wp_ret ⟨fun _=>⟨cnt,by omega⟩,(fun h=>by cases h)⟩) (fun _=>?_))
 refine bJ (bJ (bJ (bJ (bJ ?_))))
 refine av (R:=fun y j3=>y.length+5≤100*(j3 - j)) (wp_cond (fun _=>hP.1 _) (fun _=>hE.1 _)) (fun _=>aA) fun y j3 hy=>?_
 refine aZ (fun _=>wp_cond (fun _=>wp_ret ⟨fun _=>⟨cnt,by omega⟩,(fun h=>by cases h)⟩) (fun h=>by cases h)) (fun _=>wp_cond (fun h=>by cases h) (fun _=>bJ (wp_cond (fun he=>?_) (fun _=>?_))))
 ·exact wp_ret ⟨fun _=>⟨cnt,by omega⟩,(fun h=>by cases h)⟩
 ·exact wp_cond (fun _=>wp_ret ⟨fun _=>⟨cnt,by omega⟩,(fun h=>by cases h)⟩) (fun _=>qL aA)
theorem Vu (hg:GT t):∀n,CX (gG t n 0)∧CX (gG t n 1)∧CX (gG t n 2)∧CX (gG t n 3)∧CX (gG t n 4)∧CX (gG t n 5)∧CX (gG t n 6)
 |0=>by
  refine⟨⟨fun i a r h=>?_,dM _ _ _⟩,⟨fun i a r h=>?_,dM _ _ _⟩,⟨fun i a r h=>?_,dM _ _ _⟩,⟨fun i a r h=>?_,dM _ _ _⟩,⟨fun i a r h=>?_,dM _ _ _⟩,⟨fun i a r h=>?_,dM _ _ _⟩,⟨fun i a r h=>?_,dM _ _ _⟩⟩<;>exact absurd h (by simp[gG])
 |n+1=>by
  obtain⟨h0,h1,h2,h3,h4,h5,h6⟩:=Vu hg n
  have s0:=h0.2
  have s1:=h1.2
  exact⟨⟨fun i=>aeo hg h0 i,dM _ _ _⟩,aew h1 h2,aex h2 (acr hg h1 h6),Yz ⟨fun i=>aey hg h0 h1 i,aA⟩ h1 h6,afv h1 h3 h4,⟨fun i=>aep hg h5 i,dM _ _ _⟩,acv hg h0 h1 h3 h5 h4⟩
end
end Go.Proofs.YtdplogkmkgekdaaGreatDoor.Bk
