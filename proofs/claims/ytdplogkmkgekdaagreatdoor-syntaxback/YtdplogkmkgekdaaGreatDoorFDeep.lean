/- How deep a tree is, by the grammar's trees. -/
import Derived.Test.YtdplogkmkgekdaaGreatDoorFPath
import Derived.Test.YtdplogkmkgekdaaGreatDoorGma
set_option linter.all false
set_option maxRecDepth 100000
set_option maxHeartbeats 4000000
namespace Go.Proofs.YtdplogkmkgekdaaGreatDoor
section
variable (t:Tk)
def gH (x:GP (List Nr)) (e:ByteArray) (o:List (List Nr)):GP (Bool × (List (List Nr))):=bnd gN (fun b=>cond b (bnd x (fun y=>bnd (aY t e) (fun b2=>cond b2 (ret (false,o++[y])) (seq (aM t ⟨#[44]⟩) (ret (true,o++[y])))))) (ret (false,o)))
def jw (x:List (List Nr) × Bool):GP (Bool × (List (List Nr) × Bool)):=bnd (fB t 0 4) (fun b=>cond b (bnd (iR t) (fun y=>bnd (aY t ⟨#[62]⟩) (fun b2=>cond b2 (ret (false,(x.1++[y],true))) (seq (aM t ⟨#[44]⟩) (ret (true,(x.1++[y],false))))))) (ret (false,x)))
def gK (lives:Bool) (fu:Nat) (o:List (List Nr)):GP (Bool × (List (List Nr))):=bnd gN (fun b1=>cond b1 (bnd (fB t 0 4) (fun b2=>bnd (cond (lives||b2) (iR t) (kI t fu)) (fun y=>bnd (aY t ⟨#[43]⟩) (fun b3=>cond b3 (ret (true,o++[y])) (ret (false,o++[y])))))) (ret (false,o)))
def fU (bounded:Bool) (fu:Nat) (x:List (List Nr) × Bool):GP (Bool × (List (List Nr) × Bool)):=bnd gN (fun b1=>cond b1 (bnd (dh t) (fun q=>bnd (fB t 0 4) (fun b2=>cond (b2&&!x.2) (bnd (dW t) (fun s=>bnd (cond bounded (iM t true fu) (ret [])) (fun ks=>bnd (aY t ⟨#[62]⟩) (fun b3=>cond b3 (ret (false,(x.1++[nd 10 q 0 0 s ks],x.2))) (seq (aM t ⟨#[44]⟩) (ret (true,(x.1++[nd 10 q 0 0 s ks],x.2)))))))) (bnd (bG t) (fun s=>bnd (cond bounded (iM t false fu) (ret [])) (fun ks=>bnd (aY t ⟨#[62]⟩) (fun b3=>cond b3 (ret (false,(x.1++[nd 11 q 0 0 s ks],true))) (seq (aM t ⟨#[44]⟩) (ret (true,(x.1++[nd 11 q 0 0 s ks],true))))))))))) (ret (false,x)))
def uG (k:Int) (w:ByteArray) (X:GP (List Nr)) (l:List Nr):GP (Bool × (List Nr)):=bnd gN (fun b0=>bnd (bY t 0 w) (fun b=>cond (b0&&b) (bnd (dh t) (fun p=>seq (aM t w) (bnd X (fun r=>ret (true,nd k p 0 0 E0 [l,r]))))) (ret (false,l))))
def rU (ss:List ByteArray) (X:GP (List Nr)) (l:List Nr):GP (Bool × (List Nr)):=bnd gN (fun b0=>cond b0 (bnd (nZ t ss) (fun w=>cond (w.size==0) (ret (false,l)) (bnd (dh t) (fun p=>seq (aM t w) (bnd X (fun r=>ret (true,nd 29 p 0 0 w [l,r]))))))) (ret (false,l)))
def eB (E:GP (List Nr)) (fu:Nat) (e:List Nr):GP (Bool × (List Nr)):=bnd gN (fun b0=>cond b0 (bnd (bY t 0 ⟨#[40]⟩) (fun b=>cond b (bnd (dh t) (fun p=>seq (aM t ⟨#[40]⟩) (bnd (fC t E ⟨#[41]⟩ fu) (fun ks=>ret (true,nd 24 p 0 0 E0 (e::ks)))))) (bnd (bY t 0 ⟨#[46]⟩) (fun b2=>cond b2 (bnd (dh t) (fun p=>seq (aM t ⟨#[46]⟩) (bnd (fB t 0 1) (fun b3=>cond b3 (bnd (qh t) (fun n=>seq (dK 1) (ret (true,nd 25 p n 0 E0 [e])))) (bnd (bG t) (fun s=>ret (true,nd 25 p 0 0 s [e]))))))) (ret (false,e)))))) (ret (false,e)))
def oQ (L:GP (List Nr)) (E:GP (List Nr)) (P:GP (List Nr)) (x:List (List Nr) × Int):GP (Bool × (List (List Nr) × Int)):=bnd (gN) (fun b15=>bnd (cond (b15) (aY t ⟨#[125]⟩) (ret (true))) (fun b16=>cond (b16) (ret (false,x)) (bnd (bY t 0 ⟨#[108,101,116]⟩) (fun b14=>cond (b14) (bnd (L) (fun y=>seq (aM t ⟨#[59]⟩) (ret (true,(x.1++[y],x.2))))) (bnd (bY t 0 ⟨#[105,102]⟩) (fun b7=>bnd (bY t 0 ⟨#[109,97,116,99,104]⟩) (fun b8=>bnd (bY t 0 ⟨#[119,104,105,108,101]⟩) (fun b9=>bnd (bY t 0 ⟨#[108,111,111,112]⟩) (fun b10=>bnd (bY t 0 ⟨#[123]⟩) (fun b11=>bnd (cond (b7||(b8||(b9||(b10||(b11))))) (P) (E)) (fun y=>bnd (aY t ⟨#[59]⟩) (fun b13=>cond (b13) (ret (true,(x.1++[y],x.2))) (bnd (bY t 0 ⟨#[125]⟩) (fun b12=>cond (b12) (ret (true,(x.1++[y],1))) (cond (b7||(b8||(b9||(b10||(b11))))) (ret (true,(x.1++[y],x.2))) (seq (jB t) (ret (true,(x.1++[y],x.2)))))))))))))))))))
def rA (o:List (List Nr)):GP (Bool × (List (List Nr))):=bnd (gN) (fun YQ=>cond (YQ) (bnd (dh t) (fun p=>bnd (bnd (aY t ⟨#[38]⟩) (fun Ia=>cond (Ia) (bnd (aY t ⟨#[109,117,116]⟩) (fun b20=>cond (b20) (ret ((2:Int))) (ret ((1:Int))))) (ret ((0:Int))))) (fun n=>bnd (bG t) (fun s=>bnd (aY t ⟨#[93]⟩) (fun YR=>cond (YR) (ret (false,o++[nd 47 p n 0 s []])) (seq (aM t ⟨#[44]⟩) (ret (true,o++[nd 47 p n 0 s []])))))))) (ret (false,o)))
def mV (T:GP (List Nr)) (o:List (List Nr)):GP (Bool × (List (List Nr))):=bnd (gN) (fun YS=>cond (YS) (bnd (dh t) (fun p=>bnd (jC t) (fun m=>bnd (bG t) (fun s=>seq (aM t ⟨#[58]⟩) (bnd (T) (fun y=>bnd (aY t ⟨#[41]⟩) (fun YT=>cond (YT) (ret (false,o++[nd 12 p 0 m s [y]])) (seq (aM t ⟨#[44]⟩) (ret (true,o++[nd 12 p 0 m s [y]])))))))))) (ret (false,o)))
def pX (E:GP (List Nr)) (Q:GP (List Nr)) (o:List (List Nr)):GP (Bool × (List (List Nr))):=bnd (gN) (fun Ai=>bnd (cond (Ai) (aY t ⟨#[125]⟩) (ret (true))) (fun b32=>cond (b32) (ret (false,o)) (bnd (dh t) (fun q=>bnd (Q) (fun y=>seq (aM t ⟨#[61,62]⟩) (bnd (E) (fun z=>bnd (bY t 0 ⟨#[125]⟩) (fun Aj=>cond (Aj) (ret (true,o++[nd 35 q 0 0 E0 [y,z]])) (seq (aM t ⟨#[44]⟩) (ret (true,o++[nd 35 q 0 0 E0 [y,z]])))))))))))
def rC (E:GP (List Nr)) (o:List (List Nr)):GP (Bool × (List (List Nr))):=bnd (gN) (fun YU=>bnd (cond (YU) (aY t ⟨#[125]⟩) (ret (true))) (fun YV=>cond (YV) (ret (false,o)) (bnd (dh t) (fun q=>bnd (bG t) (fun s2=>seq (aM t ⟨#[58]⟩) (bnd (E) (fun z=>bnd (bY t 0 ⟨#[125]⟩) (fun YW=>cond (YW) (ret (true,o++[nd 45 q 0 0 s2 [z]])) (seq (aM t ⟨#[44]⟩) (ret (true,o++[nd 45 q 0 0 s2 [z]])))))))))))
def lK (T:GP (List Nr)) (o:List (List Nr)):GP (Bool × (List (List Nr))):=bnd (gN) (fun Y8=>bnd (cond (Y8) (aY t ⟨#[125]⟩) (ret (true))) (fun Y9=>cond (Y9) (ret (false,o)) (bnd (dh t) (fun f=>bnd (bnd (aY t ⟨#[112,117,98]⟩) (fun Ak=>cond (Ak) (ret ((1:Int))) (ret ((0:Int))))) (fun fm=>bnd (bG t) (fun fs=>seq (aM t ⟨#[58]⟩) (bnd (T) (fun y=>bnd (bY t 0 ⟨#[125]⟩) (fun Za=>cond (Za) (ret (true,o++[nd 5 f 0 fm fs [y]])) (seq (aM t ⟨#[44]⟩) (ret (true,o++[nd 5 f 0 fm fs [y]]))))))))))))
def og (T:GP (List Nr)) (fu:Nat) (o:List (List Nr)):GP (Bool × (List (List Nr))):=bnd (gN) (fun Zb=>bnd (cond (Zb) (aY t ⟨#[125]⟩) (ret (true))) (fun Zc=>cond (Zc) (ret (false,o)) (bnd (dh t) (fun q=>bnd (bG t) (fun vs=>bnd (bnd (bY t 0 ⟨#[40]⟩) (fun DI=>cond (DI) (seq (aM t ⟨#[40]⟩) (bnd (bY t 0 ⟨#[41]⟩) (fun c=>seq (cond c (jB t) (ret ())) (fC t T ⟨#[41]⟩ fu)))) (ret ([])))) (fun ks=>bnd (bY t 0 ⟨#[125]⟩) (fun Zd=>cond (Zd) (ret (true,o++[nd 4 q 0 0 vs (ks.map (fun y=>nd 5 (match y with|[]=>0|z::_=>z.p) 0 0 E0 [y]))])) (seq (aM t ⟨#[44]⟩) (ret (true,o++[nd 4 q 0 0 vs (ks.map (fun y=>nd 5 (match y with|[]=>0|z::_=>z.p) 0 0 E0 [y]))]))))))))))
def jJ (T:GP (List Nr)) (B:GP (List Nr)) (fu:Nat) (o:List (List Nr)):GP (Bool × (List (List Nr))):=bnd (gN) (fun Ze=>bnd (cond (Ze) (aY t ⟨#[125]⟩) (ret (true))) (fun b64=>cond (b64) (ret (false,o)) (bnd (fM t T false fu) (fun h=>bnd (B) (fun z=>ret (true,o++[nd 8 h.1 h.2.2.2 0 h.2.1 (h.2.2.1++[z])]))))))
def iP (T:GP (List Nr)) (fu:Nat) (o:List (List Nr)):GP (Bool × (List (List Nr))):=bnd (gN) (fun Ig=>bnd (cond (Ig) (aY t ⟨#[125]⟩) (ret (true))) (fun Ih=>cond (Ih) (ret (false,o)) (bnd (bnd (fM t T false fu) (fun h=>ret (nd 8 h.1 h.2.2.2 0 h.2.1 h.2.2.1))) (fun y=>seq (aM t ⟨#[59]⟩) (ret (true,o++[y]))))))
def fO (o:List (List Nr)):GP (Bool × (List (List Nr))):=bnd (gN) (fun b0=>bnd (bY t 0 ⟨#[117,115,101]⟩) (fun b1=>cond (b0&&b1) (bnd (dh t) (fun q=>seq (aM t ⟨#[117,115,101]⟩) (bnd (bG t) (fun s1=>seq (aM t ⟨#[58,58]⟩) (bnd (bG t) (fun s2=>seq (aM t ⟨#[59]⟩) (ret (true,o++[nd 2 q 0 0 (s1++⟨#[58,58]⟩++s2) []])))))))) (ret (false,o))))
def fV (T:GP (List Nr)) (B:GP (List Nr)) (fu:Nat) (o:List (List Nr)):GP (Bool × (List (List Nr))):=bnd (gN) (fun Zf=>bnd (cond (Zf) (aY t ⟨#[125]⟩) (ret (true))) (fun Zg=>cond (Zg) (ret (false,o)) (bnd (eO t T B fu) (fun y=>ret (true,o++[y])))))
def jK (fu:Nat) (o:List (List Nr)):GP (Bool × (List (List Nr))):=bnd (gN) (fun b0=>bnd (fB t 0 0) (fun b1=>cond (b0&&!b1) (bnd (je t (gG t fu 0) (gG t fu 3) fu) (fun y=>ret (true,o++[y]))) (ret (false,o))))
end
theorem mW {a b:Bool} (h:a=true):(a||b)=true:=by rw[h];rfl
theorem dZ {a b:Bool} (h:b=true):(a||b)=true:=by rw[h];cases a<;>rfl
theorem jh {a b:Bool} (h:a=false) (h':b=false):(a||b)=false:=by rw[h,h'];rfl
theorem dR {a b:Bool} (h:a=true) (h':b=true):(a&&b)=true:=by rw[h,h'];rfl
theorem oL {a b:Bool} (h:a=false):(a&&b)=false:=by rw[h];rfl
theorem jf {a b:Bool} (h:b=false):(a&&b)=false:=by rw[h];cases a<;>rfl
theorem vT {a:Bool} (h:a=true):(!a)=false:=by rw[h];rfl
theorem uR {a:Bool} (h:a=false):(!a)=true:=by rw[h];rfl
theorem Ho {a:Bool} (h:(!a)=true):a=false:=by cases a<;>simp_all
theorem Bz {a:Bool} (h:(!a)=false):a=true:=by cases a<;>simp_all
theorem oh {ki po:Int} {ks:List (List Nr)} (h:ks.length≠1):jv ki po ks=nd ki po 0 0 E0 ks:=by
 unfold jv
 split
 ·exact absurd rfl h
 ·rfl
theorem bS {α:Type} {m:Nat→GP α} {s:Rs} {r:α × Rs} (h:Ev m s r:=by
 repeat' (first
  |with_reducible assumption
  |with_reducible exact Ev.ret'
  |with_reducible rfl
  |with_reducible refine Ev.ak bL ?_
  |with_reducible refine Ev.ak aI ?_
  |with_reducible refine Ev.ak dz ?_
  |with_reducible refine Ev.ak bT ?_
  |with_reducible refine Ev.ak Nj ?_
  |with_reducible refine Ev.ak vX ?_
  |with_reducible refine Ev.ak xX ?_
  |with_reducible refine Ev.seq iJ ?_
  |with_reducible refine Ev.seq Ev.ret' ?_
  |with_reducible refine Ev.ak Ev.ret' ?_
  |with_reducible refine Ev.ak ‹_› ?_
  |with_reducible refine Ev.seq ‹_› ?_
  |with_reducible refine Ev.yes rfl ?_
  |with_reducible refine Ev.no rfl ?_
  |with_reducible refine Ev.yes ‹_› ?_
  |with_reducible refine Ev.no ‹_› ?_
  |with_reducible refine Ev.ak (dn ‹_›) ?_
  |with_reducible refine Ev.ak (iV ‹_›) ?_
  |with_reducible refine Ev.seq (bP ‹_›) ?_
  |with_reducible refine Ev.yes (mW ‹_›) ?_
  |with_reducible refine Ev.yes (dR ‹_› ‹_›) ?_
  |with_reducible refine Ev.yes (dZ ‹_›) ?_
  |with_reducible refine Ev.yes (dZ (mW ‹_›)) ?_
  |with_reducible refine Ev.yes (dZ (dZ (mW ‹_›))) ?_
  |with_reducible refine Ev.yes (dZ (dZ (dZ (mW ‹_›)))) ?_
  |with_reducible refine Ev.yes (dZ (dZ (dZ (dZ ‹_›)))) ?_
  |with_reducible refine Ev.yes (dZ (dZ (dZ ‹_›))) ?_
  |with_reducible refine Ev.yes (dZ (dZ ‹_›)) ?_
  |with_reducible refine Ev.yes (dR ‹_› (uR ‹_›)) ?_
  |with_reducible refine Ev.yes (dR ‹_› (mW ‹_›)) ?_
  |with_reducible refine Ev.yes (dR ‹_› (dZ ‹_›)) ?_
  |with_reducible refine Ev.yes (uR ‹_›) ?_
  |with_reducible refine Ev.yes ((Nl _).trans ‹_›) ?_
  |with_reducible refine Ev.yes (dR rfl ‹_›) ?_
  |with_reducible refine Ev.yes (dR rfl (uR ‹_›)) ?_
  |with_reducible refine Ev.no (jh ‹_› ‹_›) ?_
  |with_reducible refine Ev.no (oL ‹_›) ?_
  |with_reducible refine Ev.no (jf ‹_›) ?_
  |with_reducible refine Ev.no (jh ‹_› (jh ‹_› ‹_›)) ?_
  |with_reducible refine Ev.no (jh ‹_› (jh ‹_› (jh ‹_› (jh ‹_› ‹_›)))) ?_
  |with_reducible refine Ev.no (jf (vT ‹_›)) ?_
  |with_reducible refine Ev.no (jf (jh ‹_› ‹_›)) ?_
  |with_reducible refine Ev.no (vT ‹_›) ?_
  |with_reducible refine Ev.no ((Nl _).trans ‹_›) ?_
  |with_reducible refine Ev.yes (dR ‹_› rfl) ?_
  |with_reducible refine Ev.yes (Bool.true_or _) ?_
  |with_reducible refine Ev.no (jh rfl ‹_›) ?_
  |with_reducible refine Ev.yes (Bz ‹_›) ?_
  |with_reducible refine Ev.no (Ho ‹_›) ?_
  |with_reducible refine Ev.yes (dR rfl (Bz ‹_›)) ?_
  |with_reducible refine Ev.no (jf rfl) ?_
  |with_reducible refine Ev.yes (beq_iff_eq.2 ‹_›) ?_
  |with_reducible refine Ev.yes (Ij.out.trans ‹_›) ?_
  |with_reducible refine Ev.no (Ij.out.trans ‹_›) ?_
  |with_reducible refine Ev.no (Ij.out.trans (Ho ‹_›)) ?_
  |with_reducible refine Ev.yes (Ij.out.trans (Bz ‹_›)) ?_
  |with_reducible refine Ev.yes (dR ‹_› (jL.out.trans ‹_›)) ?_
  |with_reducible refine Ev.no (jf (jL.out.trans ‹_›)) ?_
  |exact Ev.ret'
  |refine Ev.bnd (EvL.ev (by assumption)) ?_
  |exact EvL.ev (by assumption)
  |exact Ev.ret (fun _=>oh (by assumption))
  |exact Ev.ret (fun _=>if_pos (by assumption))
  |exact Ev.ret (fun _=>if_neg (by simp;assumption))
  |exact Ev.ret (fun _=> ‹_›)
  |with_reducible apply Ev.ak
  |with_reducible apply Ev.seq)):Ev m s r:=h
open Go.RowKit
theorem OG {w:World} {kd p n m:Int} {s:ByteArray} {v:Value} {y:List Nr}:Fl w [(ah kd p n m s v).toList] [y]→(match y with|[]=>E0|z::_=>z.s)=s∧(match y with|[]=>0|z::_=>z.p)=p:=by
 intro hy
 obtain⟨h,hf⟩:=hy
 have:=hf (h+1) (Nat.le_succ _)
 simp only[List.map_cons,List.map_nil,List.cons.injEq,and_true] at this
 rw[←this]
 exact⟨rfl,rfl⟩
theorem EU {t:Tk} {i d:Nat} {k:Int} {q:ByteArray} (h:(k==0)=false):au t i k d q=false:=by unfold au;rw[h];rfl
theorem Cc {S:Nat→Prop} {g:Prop} {w:World}:(h:Nat)→(cs:List Value)→isNode S g h w cs→∀f,h≤f→flat f w cs=flat h w cs
 |0,_,hn,_,_=>absurd hn (fun x=>x)
 |_+1,_,_,0,hf=>absurd hf (by omega)
 |h+1,_,⟨kind,pos,n,m,name,kv,vs,h1,h2,h3,h3',h4,h5,h6,h7⟩,f+1,hf=>by
  subst h1
  rw[qR h4 h6,qR h4 h6]
  have:vs.map (flat f w)=vs.map (flat h w):=List.map_congr_left (fun x hx=>Cc h x (h6 x hx) f (by omega))
  rw[this]
theorem isNode.fl {S:Nat→Prop} {g:Prop} {w:World} {h:Nat} {cs:List Value} (hn:isNode S g h w cs):Fl w [cs] [flat h w cs]:=⟨h,fun f hf=>by simp only[List.map_cons,List.map_nil];rw[Cc h cs hn f hf]⟩
theorem Fl.Nn {w:World} {c:List Value} {x y:List Nr} (h1:Fl w [c] [x]) (h2:Fl w [c] [y]):x=y:=by
 obtain⟨a,ha⟩:=h1
 obtain⟨b,hb⟩:=h2
 have e1:=ha (max a b) (Nat.le_max_left _ _)
 have e2:=hb (max a b) (Nat.le_max_right _ _)
 rw[e1] at e2
 exact(List.cons.inj e2).1
theorem isNode.Rt {S:Nat→Prop} {g:Prop} {h:Nat} {w:World} {kind pos n m:Int} {name:ByteArray} {ko:Option Addr} {kl kc:Nat} (hn:isNode S g (h+1) w (ah kind pos n m name (.slice ko kl kc)).toList) {y:List Nr} (hy:Fl w [(ah kind pos n m name (.slice ko kl kc)).toList] [y]):∃F:List (List Nr),y=nd kind pos n m name F∧F.length=kl∧(0≤pos∧pos≤7000)∧kl≤20000∧∀idx,idx<kl→∃gb,ko=some ⟨gb,0,none⟩∧S gb∧gb<w.heap.size∧∃kind pos n m name ko kl kc,isNode S g h w (ah kind pos n m name (.slice ko kl kc)).toList∧(∀o,o<11→w.cell? ⟨gb,idx*11+o,none⟩=(ah kind pos n m name (.slice ko kl kc))[o]?)∧∃y2,F[idx]? =some y2∧Fl w [(ah kind pos n m name (.slice ko kl kc)).toList] [y2]:=by
 have hst:=hn.fl
 obtain⟨kind',pos',n',m',name',kv,vs,e1,e2,e3,e3',e4,e5,e6,e7⟩:=hn
 simp only[Array.toList_inj] at e1
 have Zi:(kind=kind'∧n=n'∧m=m'∧name=name')∧pos=pos'∧Value.slice ko kl kc=kv:=by simp at e1;exact⟨⟨e1.1,e1.2.2.1,e1.2.2.2.1,e1.2.2.2.2.1⟩,e1.2.1,e1.2.2.2.2.2⟩
 obtain⟨⟨rfl,rfl,rfl,rfl⟩,rfl,rfl⟩:=Zi
 have hkl:kl=vs.length:=by
  rcases e4.2 with⟨x1,x2⟩|⟨x,y,z,x1,_⟩
  ·simp at x1;omega
  ·simp at x1;omega
 have Uh:y=nd kind pos n m name (vs.map (flat h w)):=(Fl.Nn hy hst).trans (qR e4 e6)
 refine⟨vs.map (flat h w),Uh,by simp[hkl],e3,by omega,fun idx hidx=>?_⟩
 have hi:idx<vs.length:=by omega
 have hx:vs[idx]? =some vs[idx]:=List.getElem?_eq_getElem hi
 have hm:vs[idx]∈vs:=List.getElem_mem hi
 have hk:=e6 _ hm
 have h11:∀x∈vs,x.length=11:=fun x hx=>(isNode.ones _ _ (e6 x hx)).1
 rcases e4.2 with⟨x1,x2⟩|⟨gb,cap,cur,x1,hb,hg,hnc,hcm,hcs,htake⟩
 ·omega
 ·obtain⟨rfl,-,rfl⟩:ko=some ⟨gb,0,none⟩∧kl=vs.length∧kc=cap:=by simpa using x1
  refine⟨gb,rfl,e5 gb rfl,(Array.getElem?_eq_some_iff.1 hg).1,?_⟩
  cases h with
  |zero=>exact absurd hk (fun x=>x)
  |succ h=>
   have hk':=hk
   obtain⟨kind,pos,n,m,name,kv',vs',f1,f2,f3,f3',f4,f5,f6,f7⟩:=hk
   have hsh:∃ko kl kc,kv'=.slice ko kl kc:=by
    rcases f4.2 with⟨x1,_⟩|⟨x,y,z,x1,_⟩
    ·exact⟨_,_,_,x1⟩
    ·exact⟨_,_,_,x1⟩
   obtain⟨Zj,kl',Zk,rfl⟩:=hsh
   refine⟨kind,pos,n,m,name,Zj,kl',Zk,f1▸hk',fun o ho=>?_,flat (h+1) w (ah kind pos n m name (.slice Zj kl' Zk)).toList,by rw[List.getElem?_map,hx,f1];rfl,(f1▸hk':isNode S g (h+1) w (ah kind pos n m name (.slice Zj kl' Zk)).toList).fl⟩
   have hg2:=flat_get h11 hx o ho
   have hlt:idx*11+o<vs.length*11:=by omega
   rw[cell_of_row w gb (idx*11+o) cur 28 (0,0) hg]
   have e8:(cur.toList.take (vs.length*11))[idx*11+o]? =cur[idx*11+o]? :=by rw[List.getElem?_take,if_pos hlt];simp
   rw[←e8,htake,hg2,f1]
   simp
end Go.Proofs.YtdplogkmkgekdaaGreatDoor
