/- The project's parser: chains of operators. -/
import Derived.Test.YtdplogkmkgekdaaGreatDoorPkzn
import Derived.Test.YtdplogkmkgekdaaGreatDoorTypes
set_option linter.all false
set_option maxRecDepth 100000
set_option maxHeartbeats 4000000
namespace Go.Proofs.YtdplogkmkgekdaaGreatDoor.Pj
open Go.RowKit
structure BG (t:Tk) (M O:Nat→GP (List Nr)) (E:Bool→List (List Nr)→Nat→List (List Nr) × Nat→Prop) (Wf:Bool→List (List Nr)→Nat→Int→Prop):Prop where
 stop:∀{β dO:Bool} {i j:Nat} {y:List Nr} {o:List (List Nr)},tT t M O β i (.inl (dO,y,j))→au t j 0 0 ⟨#[62]⟩=true→E β o i (o++[y],j+1)
 next:∀{β dO:Bool} {i j:Nat} {y:List Nr} {o:List (List Nr)} {r:List (List Nr) × Nat},tT t M O β i (.inl (dO,y,j))→au t j 0 0 ⟨#[44]⟩=true→au t j 0 0 ⟨#[62]⟩=false→E dO (o++[y]) (j+1) r→E β o i r
 UU:∀{β dO:Bool} {i j:Nat} {y:List Nr} {o:List (List Nr)} {p:Int},tT t M O β i (.inl (dO,y,j))→au t j 0 0 ⟨#[44]⟩=true→au t j 0 0 ⟨#[62]⟩=false→Wf dO (o++[y]) (j+1) p→Wf β o i p
 bad:∀{β dO:Bool} {i j:Nat} {y:List Nr} {o:List (List Nr)},tT t M O β i (.inl (dO,y,j))→au t j 0 0 ⟨#[44]⟩=false→au t j 0 0 ⟨#[62]⟩=false→Wf β o i (t.pos j)
 aR:∀{β:Bool} {i:Nat} {o:List (List Nr)} {p:Int},tT t M O β i (.inr p)→Wf β o i p
section
variable {t:Tk} {M O:Nat→GP (List Nr)} {E:Bool→List (List Nr)→Nat→List (List Nr) × Nat→Prop} {Wf:Bool→List (List Nr)→Nat→Int→Prop}
theorem BG.lp (H:BG t M O E Wf) {β:Bool} {j:Nat} {F:List (List Nr)} {r:ru} (h:pR t M O β j F r):∀(AO:Bool) (i0:Nat) (o:List (List Nr)) (y:List Nr),F=o++[y]→tT t M O AO i0 (.inl (β,y,j))→(∀G,r=.inl G→E AO o i0 G)∧∀p,r=.inr p→Wf AO o i0 p:=by
 refine h (fun β j F r=>∀(AO:Bool) (i0:Nat) (o:List (List Nr)) (y:List Nr),F=o++[y]→tT t M O AO i0 (.inl (β,y,j))→(∀G,r=.inl G→E AO o i0 G)∧∀p,r=.inr p→Wf AO o i0 p) ?_ ?_ ?_ ?_
 ·intro β j F h1 h2 AO i0 o y hF hy
  refine⟨fun G e=>?_,fun p e=>by simp at e⟩
  rw[←Sum.inl.inj e,hF]
  exact H.stop hy h2
 ·intro β j F h1 h2 AO i0 o y hF hy
  refine⟨fun G e=>by simp at e,fun p e=>?_⟩
  rw[←Sum.inr.inj e]
  exact H.bad hy h1 h2
 ·intro β dO j F y2 j2 r h1 h2 ih AO i0 o y hF hy
  have hc:=aF h1 (b:=⟨#[62]⟩) (lit)
  obtain⟨k1,k2⟩:=ih β (j+1) (o++[y]) y2 (by rw[hF]) h2
  exact⟨fun G e=>H.next hy h1 hc (k1 G e),fun p e=>H.UU hy h1 hc (k2 p e)⟩
 ·intro β j F p h1 h2 AO i0 o y hF hy
  have hc:=aF h1 (b:=⟨#[62]⟩) (lit)
  refine⟨fun G e=>by simp at e,fun p2 e=>?_⟩
  rw[←Sum.inr.inj e]
  exact H.UU hy h1 hc (H.aR h2)
theorem BG.run (H:BG t M O E Wf) {i:Nat} {r:ru} (h:Jf t M O i r):(∀G,r=.inl G→E false [] i G)∧∀p,r=.inr p→Wf false [] i p:=by
 rcases h with⟨β,y,j,h1,h2⟩|⟨p,h1,rfl⟩
 ·exact H.lp h2 false i [] y rfl h1
 ·refine⟨fun G e=>by simp at e,fun p2 e=>?_⟩
  rw[←Sum.inr.inj e]
  exact H.aR h1
end
section
variable {t:Tk} {T:Nat→GP (List Nr)} {o o2:List (List Nr)} {s s2:Rs} {r:List (List Nr) × Rs} {p:Int}
def yC (t:Tk) (T:GP (List Nr)) (n l:Nat) (o:List (List Nr)):GP (List (List Nr)):=bnd (loop (jw t) l (o,false)) (fun r=>cond r.2 (ret r.1) (qj t T ⟨#[62]⟩ n r.1))
def EvA (t:Tk) (T:Nat→GP (List Nr)) (o:List (List Nr)) (s:Rs) (r:List (List Nr) × Rs):Prop:=∃n0,∀n l,n0≤n→n0≤l→yC t (T n) n l o s=some r
def xw (t:Tk) (T:Nat→GP (List Nr)) (o:List (List Nr)) (s:Rs) (p:Int):Prop:=∃n0,∀n l,n0≤n→n0≤l→∀r,yC t (T n) n l o s=some r→r.2.k=4∧r.2.a=p
theorem Gp {T1:GP (List Nr)} {n l:Nat} (h:jw t (o,false) s=some ((true,(o2,false)),s2)):yC t T1 n (l+1) o s=yC t T1 n l o2 s2:=by
 have e:loop (jw t) (l+1) (o,false) s=loop (jw t) l (o2,false) s2:=vR h
 unfold yC bnd
 rw[e]
theorem zB {T1:GP (List Nr)} {n l:Nat} {b:Bool} (h:jw t (o,false) s=some ((false,(o2,b)),s2)):yC t T1 n (l+1) o s=cond b (ret o2) (qj t T1 ⟨#[62]⟩ n o2) s2:=by
 have e:loop (jw t) (l+1) (o,false) s=some ((o2,b),s2):=vR h
 exact vR e
theorem EvA.on (h:Ev (fun _=>jw t (o,false)) s ((true,(o2,false)),s2)) (h2:EvA t T o2 s2 r):EvA t T o s r:=by
 obtain⟨a,ha⟩:=h
 obtain⟨c,hc⟩:=h2
 refine⟨max a c+1,fun n l hn hl=>?_⟩
 have h3:=Nat.le_max_left a c
 have h4:=Nat.le_max_right a c
 obtain⟨l,rfl⟩:∃m,l=m+1:=⟨l - 1,by omega⟩
 rw[Gp (ha n (by omega))]
 exact hc n l (by omega) (by omega)
theorem EvA.stop (h:Ev (fun _=>jw t (o,false)) s ((false,(o2,true)),s2)):EvA t T o s (o2,s2):=by
 obtain⟨a,ha⟩:=h
 refine⟨a+1,fun n l hn hl=>?_⟩
 obtain⟨l,rfl⟩:∃m,l=m+1:=⟨l - 1,by omega⟩
 rw[zB (ha n (by omega))]
 rfl
theorem EvA.row (h:Ev (fun _=>jw t (o,false)) s ((false,(o,false)),s)) (h2:EvL (fun n=>gH t (T n) ⟨#[62]⟩) o s r):EvA t T o s r:=by
 obtain⟨a,ha⟩:=h
 obtain⟨c,hc⟩:=h2
 refine⟨max a c+1,fun n l hn hl=>?_⟩
 have h3:=Nat.le_max_left a c
 have h4:=Nat.le_max_right a c
 obtain⟨l,rfl⟩:∃m,l=m+1:=⟨l - 1,by omega⟩
 rw[zB (ha n (by omega))]
 exact hc n n (by omega) (by omega)
theorem xw.on (h:Ev (fun _=>jw t (o,false)) s ((true,(o2,false)),s2)) (h2:xw t T o2 s2 p):xw t T o s p:=by
 obtain⟨a,ha⟩:=h
 obtain⟨c,hc⟩:=h2
 refine⟨max a c+1,fun n l hn hl r hr=>?_⟩
 have h3:=Nat.le_max_left a c
 have h4:=Nat.le_max_right a c
 obtain⟨l,rfl⟩:∃m,l=m+1:=⟨l - 1,by omega⟩
 rw[Gp (ha n (by omega))] at hr
 exact hc n l (by omega) (by omega) r hr
theorem xw.here (hs:∀n,Sy (T n)) (h:Wr (fun _=>jw t (o,false)) s p):xw t T o s p:=by
 obtain⟨a,ha⟩:=h
 refine⟨a+1,fun n l hn hl r hr=>?_⟩
 obtain⟨l,rfl⟩:∃m,l=m+1:=⟨l - 1,by omega⟩
 obtain⟨q,h1,h2⟩:=pK hr
 obtain⟨q2,h5,h6⟩:=pK h1
 obtain⟨h7,h8⟩:=ha n (by omega) q2 h5
 have sB:∀x,Sy (jw t x):=fun x=>by unfold jw;exact aA
 have h9:=((Sy.cond (Sy.loop sB l q2.1.2) Sy.ret:Sy (cond q2.1.1 (loop (jw t) l q2.1.2) (ret q2.1.2))) q2.2 q h6).2 (by rw[h7];decide)
 have sR:=hs n
 have h10:=((aA:Sy (cond q.1.2 (ret q.1.1) (qj t (T n) ⟨#[62]⟩ n q.1.1))) q.2 r h2).2 (by rw[h9.1,h7];decide)
 exact⟨h10.1.trans (h9.1.trans h7),h10.2.trans (h9.2.trans h8)⟩
theorem xw.row (h:Ev (fun _=>jw t (o,false)) s ((false,(o,false)),s)) (h2:bZ (fun n=>gH t (T n) ⟨#[62]⟩) o s p):xw t T o s p:=by
 obtain⟨a,ha⟩:=h
 obtain⟨c,hc⟩:=h2
 refine⟨max a c+1,fun n l hn hl r hr=>?_⟩
 have h3:=Nat.le_max_left a c
 have h4:=Nat.le_max_right a c
 obtain⟨l,rfl⟩:∃m,l=m+1:=⟨l - 1,by omega⟩
 rw[zB (ha n (by omega))] at hr
 exact hc n n (by omega) (by omega) r hr
theorem RX (hT:∀n,Sy (T n)):BG t (fun _=>iR t) T (fun β o i r=>if β=true then EvL (fun n=>gH t (T n) ⟨#[62]⟩) o ⟨i,0,0⟩ (r.1,⟨r.2,0,0⟩) else EvA t T o ⟨i,0,0⟩ (r.1,⟨r.2,0,0⟩)) (fun β o i p=>if β=true then bZ (fun n=>gH t (T n) ⟨#[62]⟩) o ⟨i,0,0⟩ p else xw t T o ⟨i,0,0⟩ p):=by
 have R:=mH (t:=t) (en:=⟨#[62]⟩) hT
 have UW:∀{i:Nat} {o:List (List Nr)},bf t i 0 0 4=false→Ev (fun _=>jw t (o,false)) ⟨i,0,0⟩ ((false,(o,false)),⟨i,0,0⟩):=fun h=>Ev.ak dz (Ev.no h Ev.ret')
 have key:∀{β:Bool} {i:Nat} {o:List (List Nr)} {r:List (List Nr) × Rs},(β=true∨bf t i 0 0 4=false)→EvL (fun n=>gH t (T n) ⟨#[62]⟩) o ⟨i,0,0⟩ r→if β=true then EvL (fun n=>gH t (T n) ⟨#[62]⟩) o ⟨i,0,0⟩ r else EvA t T o ⟨i,0,0⟩ r:=fun{β i o r} h h2=>by
  cases β
  ·exact EvA.row (UW (by simpa using h)) h2
  ·exact h2
 have RY:∀{β:Bool} {i:Nat} {o:List (List Nr)} {p:Int},(β=true∨bf t i 0 0 4=false)→bZ (fun n=>gH t (T n) ⟨#[62]⟩) o ⟨i,0,0⟩ p→if β=true then bZ (fun n=>gH t (T n) ⟨#[62]⟩) o ⟨i,0,0⟩ p else xw t T o ⟨i,0,0⟩ p:=fun{β i o p} h h2=>by
  cases β
  ·exact xw.row (UW (by simpa using h)) h2
  ·exact h2
 refine⟨?_,?_,?_,?_,?_⟩
 ·rintro β dO i j y o (⟨rfl,hk,⟨y1,j1,hE,e⟩|⟨p,_,e⟩⟩|⟨hk,⟨y1,j1,hE,e⟩|⟨p,_,e⟩⟩) hb
  ·obtain⟨rfl,rfl,rfl⟩:dO=false∧y=y1∧j=j1:=by simpa using e
   exact EvA.stop (Ev.ak dz (Ev.yes hk (Ev.ak hE (Ev.ak (iV hb) (Ev.yes rfl Ev.ret')))))
  ·simp at e
  ·obtain⟨rfl,rfl,rfl⟩:dO=true∧y=y1∧j=j1:=by simpa using e
   exact key hk (EvL.stop (R.e1 hE hb))
  ·simp at e
 ·rintro β dO i j y o r (⟨rfl,hk,⟨y1,j1,hE,e⟩|⟨p,_,e⟩⟩|⟨hk,⟨y1,j1,hE,e⟩|⟨p,_,e⟩⟩) hc hb h2
  ·obtain⟨rfl,rfl,rfl⟩:dO=false∧y=y1∧j=j1:=by simpa using e
   exact EvA.on (Ev.ak dz (Ev.yes hk (Ev.ak hE (Ev.ak (dn hb) (Ev.no rfl (Ev.seq (bP hc) Ev.ret')))))) h2
  ·simp at e
  ·obtain⟨rfl,rfl,rfl⟩:dO=true∧y=y1∧j=j1:=by simpa using e
   exact key hk (EvL.on (R.e2 hE hb hc) h2)
  ·simp at e
 ·rintro β dO i j y o r (⟨rfl,hk,⟨y1,j1,hE,e⟩|⟨p,_,e⟩⟩|⟨hk,⟨y1,j1,hE,e⟩|⟨p,_,e⟩⟩) hc hb h2
  ·obtain⟨rfl,rfl,rfl⟩:dO=false∧y=y1∧j=j1:=by simpa using e
   exact xw.on (Ev.ak dz (Ev.yes hk (Ev.ak hE (Ev.ak (dn hb) (Ev.no rfl (Ev.seq (bP hc) Ev.ret')))))) h2
  ·simp at e
  ·obtain⟨rfl,rfl,rfl⟩:dO=true∧y=y1∧j=j1:=by simpa using e
   exact RY hk (bZ.on (R.e2 hE hb hc) h2)
  ·simp at e
 ·rintro β dO i j y o (⟨rfl,hk,⟨y1,j1,hE,e⟩|⟨p,_,e⟩⟩|⟨hk,⟨y1,j1,hE,e⟩|⟨p,_,e⟩⟩) hc hb
  ·obtain⟨rfl,rfl,rfl⟩:dO=false∧y=y1∧j=j1:=by simpa using e
   exact xw.here hT (Wr.snd dz (Wr.yes hk (Wr.snd hE (Wr.snd (dn hb) (Wr.no rfl (Wr.sq (sF hc) (fun _=>aA)))))))
  ·simp at e
  ·obtain⟨rfl,rfl,rfl⟩:dO=true∧y=y1∧j=j1:=by simpa using e
   exact RY hk (bZ.here (R.e3 hE hb hc) R.sy)
  ·simp at e
 ·rintro β i o p (⟨rfl,hk,⟨y1,j1,hE,e⟩|⟨p,hW,e⟩⟩|⟨hk,⟨y1,j1,hE,e⟩|⟨p,hW,e⟩⟩)
  ·simp at e
  ·obtain rfl:=Sum.inr.inj e
   exact xw.here hT (Wr.snd dz (Wr.yes hk (Wr.fst hW (fun _ _=>aA))))
  ·simp at e
  ·obtain rfl:=Sum.inr.inj e
   exact RY hk (bZ.here (R.e4 hW) R.sy)
theorem Jj (hT:∀n,Sy (T n)) {i:Nat} {x:ru} (h:Jf t (fun _=>iR t) T i x):(∀F j,x=.inl (F,j)→Ev (fun n=>qw t (T n) n) ⟨i,0,0⟩ (F,⟨j,0,0⟩))∧∀p,x=.inr p→Wr (fun n=>qw t (T n) n) ⟨i,0,0⟩ p:=by
 obtain⟨k1,k2⟩:=(RX hT).run h
 refine⟨fun F j e=>?_,fun p e=>?_⟩
 ·obtain⟨a,ha⟩:EvA t T [] ⟨i,0,0⟩ (F,⟨j,0,0⟩):=k1 _ e
  exact⟨a,fun n hn=>ha n n hn hn⟩
 ·obtain⟨a,ha⟩:xw t T [] ⟨i,0,0⟩ p:=k2 _ e
  exact⟨a,fun n hn=>ha n n hn hn⟩
end
def qA (t:Tk) (b:Bool) (fu:Nat):GP (List Nr):=bnd (dh t) (fun q=>bnd (dW t) (fun s=>bnd (cond b (iM t true fu) (ret [])) (fun ks=>ret (nd 10 q 0 0 s ks))))
def qB (t:Tk) (b:Bool) (fu:Nat):GP (List Nr):=bnd (dh t) (fun q=>bnd (bG t) (fun s=>bnd (cond b (iM t false fu) (ret [])) (fun ks=>ret (nd 11 q 0 0 s ks))))
def qW (t:Tk) (o:List (List Nr)) (β:Bool) (y:List Nr):GP (Bool × (List (List Nr) × Bool)):=bnd (aY t ⟨#[62]⟩) (fun b3=>cond b3 (ret (false,(o++[y],β))) (seq (aM t ⟨#[44]⟩) (ret (true,(o++[y],β)))))
theorem Xy {α:Type} {t:Tk} {β:Bool} {A B:Int→GP α}:bnd (dh t) (fun q=>bnd (fB t 0 4) (fun b2=>cond (b2&&!β) (A q) (B q)))=bnd (fB t 0 4) (fun b2=>cond (b2&&!β) (bnd (dh t) A) (bnd (dh t) B)):=by
 funext s
 show cond (bf t s.i s.k 0 4&&!β) _ _ s=cond (bf t s.i s.k 0 4&&!β) _ _ s
 cases(bf t s.i s.k 0 4&&!β)<;>rfl
theorem Di {t:Tk} {b:Bool} {n:Nat} {o:List (List Nr)} {β:Bool}:fU t b n (o,β)=bnd gN (fun b1=>cond b1 (bnd (fB t 0 4) (fun b2=>cond (b2&&!β) (bnd (qA t b n) (qW t o β)) (bnd (qB t b n) (qW t o true)))) (ret (false,(o,β)))):=by
 unfold fU qA qB qW
 simp only[bU,gB,Xy]
theorem RZ {t:Tk} {b:Bool}:BG t (fun n=>qA t b n) (fun n=>qB t b n) (fun β o i r=>∃dO,EvL (fun n=>fU t b n) (o,β) ⟨i,0,0⟩ ((r.1,dO),⟨r.2,0,0⟩)) (fun β o i p=>bZ (fun n=>fU t b n) (o,β) ⟨i,0,0⟩ p):=by
 have sM:∀n,Sy (qA t b n):=fun n=>by unfold qA;exact aA
 have sO:∀n,Sy (qB t b n):=fun n=>by unfold qB;exact aA
 have sK:∀o β y,Sy (qW t o β y):=fun o β y=>by unfold qW;exact aA
 have sB:∀n y,Sy (fU t b n y):=fun n y=>by unfold fU;exact aA
 have st:∀{β dO:Bool} {i j:Nat} {y:List Nr} {o:List (List Nr)} {x:(Bool × (List (List Nr) × Bool)) × Rs},tT t (fun n=>qA t b n) (fun n=>qB t b n) β i (.inl (dO,y,j))→Ev (fun _=>qW t o dO y) ⟨j,0,0⟩ x→Ev (fun n=>fU t b n (o,β)) ⟨i,0,0⟩ x:=by
  intro β dO i j y o x h hx
  have e:(fun n=>fU t b n (o,β))=(fun n=>bnd gN (fun b1=>cond b1 (bnd (fB t 0 4) (fun b2=>cond (b2&&!β) (bnd (qA t b n) (qW t o β)) (bnd (qB t b n) (qW t o true)))) (ret (false,(o,β))))):=by
   funext n
   exact Di
  rw[e]
  refine Ev.ak bT (Ev.yes rfl (Ev.ak dz ?_))
  rcases h with⟨rfl,hk,⟨y1,j1,hE,e⟩|⟨p,_,e⟩⟩|⟨hk,⟨y1,j1,hE,e⟩|⟨p,_,e⟩⟩
  ·obtain⟨rfl,rfl,rfl⟩:dO=false∧y=y1∧j=j1:=by simpa using e
   exact Ev.yes (dR hk rfl) (Ev.ak hE hx)
  ·simp at e
  ·obtain⟨rfl,rfl,rfl⟩:dO=true∧y=y1∧j=j1:=by simpa using e
   refine Ev.no ?_ (Ev.ak hE hx)
   rcases hk with rfl|hk
   ·exact jf rfl
   ·exact oL hk
  ·simp at e
 have sw:∀{β dO:Bool} {i j:Nat} {y:List Nr} {o:List (List Nr)} {p:Int},tT t (fun n=>qA t b n) (fun n=>qB t b n) β i (.inl (dO,y,j))→Wr (fun _=>qW t o dO y) ⟨j,0,0⟩ p→Wr (fun n=>fU t b n (o,β)) ⟨i,0,0⟩ p:=by
  intro β dO i j y o x h hx
  have e:(fun n=>fU t b n (o,β))=(fun n=>bnd gN (fun b1=>cond b1 (bnd (fB t 0 4) (fun b2=>cond (b2&&!β) (bnd (qA t b n) (qW t o β)) (bnd (qB t b n) (qW t o true)))) (ret (false,(o,β))))):=by
   funext n
   exact Di
  rw[e]
  refine Wr.snd bT (Wr.yes rfl (Wr.snd dz ?_))
  rcases h with⟨rfl,hk,⟨y1,j1,hE,e⟩|⟨p,_,e⟩⟩|⟨hk,⟨y1,j1,hE,e⟩|⟨p,_,e⟩⟩
  ·obtain⟨rfl,rfl,rfl⟩:dO=false∧y=y1∧j=j1:=by simpa using e
   exact Wr.yes (dR hk rfl) (Wr.snd hE hx)
  ·simp at e
  ·obtain⟨rfl,rfl,rfl⟩:dO=true∧y=y1∧j=j1:=by simpa using e
   refine Wr.no ?_ (Wr.snd hE hx)
   rcases hk with rfl|hk
   ·exact jf rfl
   ·exact oL hk
  ·simp at e
 refine⟨?_,?_,?_,?_,?_⟩
 ·intro β dO i j y o h hb
  exact⟨dO,EvL.stop (st h (Ev.ak (iV hb) (Ev.yes rfl Ev.ret')))⟩
 ·rintro β dO i j y o r h hc hb ⟨β3,h2⟩
  exact⟨β3,EvL.on (st h (Ev.ak (dn hb) (Ev.no rfl (Ev.seq (bP hc) Ev.ret')))) h2⟩
 ·intro β dO i j y o p h hc hb h2
  exact bZ.on (st h (Ev.ak (dn hb) (Ev.no rfl (Ev.seq (bP hc) Ev.ret')))) h2
 ·intro β dO i j y o h hc hb
  exact bZ.here (sw h (Wr.snd (dn hb) (Wr.no rfl (Wr.sq (sF hc) (fun _=>aA))))) sB
 ·intro β i o p h
  refine bZ.here ?_ sB
  have e:(fun n=>fU t b n (o,β))=(fun n=>bnd gN (fun b1=>cond b1 (bnd (fB t 0 4) (fun b2=>cond (b2&&!β) (bnd (qA t b n) (qW t o β)) (bnd (qB t b n) (qW t o true)))) (ret (false,(o,β))))):=by
   funext n
   exact Di
  rw[e]
  refine Wr.snd bT (Wr.yes rfl (Wr.snd dz ?_))
  rcases h with⟨rfl,hk,⟨y1,j1,hE,e⟩|⟨p,hW,e⟩⟩|⟨hk,⟨y1,j1,hE,e⟩|⟨p,hW,e⟩⟩
  ·simp at e
  ·obtain rfl:=Sum.inr.inj e
   exact Wr.yes (dR hk rfl) (Wr.fst hW (fun _ _=>sK _ _ _))
  ·simp at e
  ·obtain rfl:=Sum.inr.inj e
   refine Wr.no ?_ (Wr.fst hW (fun _ _=>sK _ _ _))
   rcases hk with rfl|hk
   ·exact jf rfl
   ·exact oL hk
theorem Jk {t:Tk} {b:Bool} {i:Nat} {x:ru} (h:Jf t (fun n=>qA t b n) (fun n=>qB t b n) i x):(∀F j,x=.inl (F,j)→Ev (fun n=>bnd (loop (fU t b n) n ([],false)) (fun r=>ret r.1)) ⟨i,0,0⟩ (F,⟨j,0,0⟩))∧∀p,x=.inr p→Wr (fun n=>bnd (loop (fU t b n) n ([],false)) (fun r=>ret r.1)) ⟨i,0,0⟩ p:=by
 obtain⟨k1,k2⟩:=RZ.run h
 refine⟨fun F j e=>?_,fun p e=>?_⟩
 ·obtain⟨dO,h2⟩:=k1 _ e
  exact Ev.ak h2.ev Ev.ret'
 ·exact Wr.fst (k2 _ e).wr (fun _ _=>Sy.ret)
theorem Mf.wc {w W W':World} {rb tb i j:Nat} {cap:Cp} {t:Tk} {g:Prop} {L:List (Nat × Array Value)} {T:List (List Value)} {kv:Value} {vs:List (List Value)} {X V:List (List Nr)} (q:Mf w rb tb cap t i g W j L T kv vs X V) (e:W'=W):Mf w rb tb cap t i g W' j L T kv vs X V:=e▸q
theorem aa5 {N:Nat} {X:Tk→Nat→GP (List Nr)} {B:Tk→Nat→List Nr→GP (Bool × List Nr)} (hX:qI 3 N X) (HB:∀t,pz t 31 [⟨#[124,124]⟩] (X t) (B t)):qI 2 N (fun t n=>bnd (X t n) (fun l=>loop (B t n) n l)):=by
 intro w rb tb i cap t h hN
 have HX:Hid (∀{w:World} {j:Nat},Rd w rb tb cap t j 0 0→t.len - j≤N→Calls Tryz.prog 160 #[.pointer (some ⟨rb,0,none⟩),.int .i64 3] w (aP w rb tb cap t j True (X t))):=fun h1 h2=>hX h1 h2
 have jL:=aD (HB t)
 clear hX HB
 have hl:=h.l
 have jT:=eX
 have oC:=h.good.few
 go_enter Tryz.func160,Tryz.ntmps160
 have q:=Mf.start h
 go_wp2_with fail
 refine(q.ne' (sz w) (aJ)).nd (fun hr=>HX.out hr hN) (fun w' p hk hw=>⟨rfl,.inr ((q.ne' (sz w) (aJ)).aR hk (Wr.fst hw (fun _ _=>Sy.loop (fun l=>jL.out.sy _ l) _ _)))⟩) ?_
 clear q
 intro w1 x1 i1 y1 hl1 m1 q
 have F:=q.f1
 go_wp2_with fail
 refine(Gi (q.ne' (sz w1) x1.a).st.rd).mono ?_
 rintro e w2 ⟨hb2,rfl⟩
 replace q:=(q.ne' (sz w1) x1.a).below hb2
 clear F hb2
 have F:=q.f2
 have HI1:Hid (i<i1):=hl1.out
 clear hl1
 go_wp2_with fail
 go_loopg [6,7] (t.len - i1) (fun g v ok wr=>∃(x:Nf) (y:List Nr) (j:Nat),g=t.len - j∧v=.int .i64 (Gh t j 31 [⟨#[124,124]⟩])∧ok=.bool (jy t j [⟨#[124,124]⟩])∧Mf w rb tb cap t i True wr j [(sz w1,x.a),(sz w,aJ)] [x.t] nl [] [y] []∧Hid ((∀r,EvL (B t) y ⟨j,0,0⟩ r→EvL (B t) y1 ⟨i1,0,0⟩ r)∧∀p,bZ (B t) y ⟨j,0,0⟩ p→bZ (B t) y1 ⟨i1,0,0⟩ p))
 case atStart=>exact⟨x1,y1,i1,rfl,rfl,rfl,q,⟨fun r h=>h,fun p h=>h⟩⟩
 case round=>
  clear F q
  obtain⟨x,y,j,eD,rfl,rfl,q,HM⟩:=hrel
  have HG:=@aG _ @eD
  clear eD
  have F:=q.f2
  cases hop:jy t j [⟨#[124,124]⟩]
  ·have oI:=aD hop
   have zC:=rE (K:=31) hop
   go_wp2_with fail
   go_light
   exact Mf.rt q Tryz.results160 1 (Ev.ak m1 (HM.out.1 _ (EvL.stop (jL.out.c0 oI.out))).ev)
  ·have oI:=aD hop
   have zC:=qc (K:=31) hop
   have lZ:(0:Int)≤(t.pos j:Int)∧(t.pos j:Int)≤7000:=by have:=h.good.qg j;omega
   have htx:=h.good.nK j
   have hjl:=q.st.rd.lt
   have hij:=q.go trivial
   have hj1:=(iY h.good hjl (lH hop).2.1).2
   go_wp2_with fail
   refine q.lf (dx · 31) ?_
   clear q F
   intro w3 q
   have F:=q.f2
   go_wp2_with fail
   refine(q.ne' (sz w3) (nk 31 (t.pos j) nl)).yw hj1 ?_
   clear q F
   intro w4 q
   have F:=q.f3
   go_wp2_with fail
   go_region_law (replace q:=q.drew;go_simp;refine q.nd (fun hr=>HX.out hr (by have:=hr.lt;omega)) (fun w' p hk hw=>⟨rfl,.inr (q.aR hk (Wr.snd m1 (HM.out.2 _ (bZ.here (jL.out.c2 oI.out hw) jL.out.sy)).wr))⟩) ?_;clear q F;intro w5 x5 i5 y5 hl5 m5 q;have F:=q.f3)
   all_goals
    replace q:=(((q.swap).l2 (sz w5) 31 (t.pos j) 0 0 ⟨#[]⟩ lZ (by decide)).fE (sl (sz w5) 2))
    replace q:=(Mf.F7 q 31 (t.pos j) 0 0 ⟨#[]⟩ (sl (sz w5) 2))
    go_wp2_with fail
    refine(Gi (q.pop.wc ?we).st.rd).mono ?_
    case we=>simp[bC,World.setCell_alloc_past,F,Nat.lt_succ_of_lt]
    rintro e w6 ⟨hb6,rfl⟩
    replace q:=(q.pop.wc (by simp[bC,World.setCell_alloc_past,F,Nat.lt_succ_of_lt])).below hb6
    go_wp2_with fail
    have hi5:=q.st.rd.lt
    have mq:=hl5.out
    go_roundg (t.len - i5)
    case measure=>rw[HG.out];omega
    case rel=>exact⟨⟨31,t.pos j,0,0,⟨#[]⟩,_,2,2⟩,_,i5,rfl,rfl,rfl,q,⟨fun r hr=>HM.out.1 r (EvL.on (jL.out.c1 oI.out m5) hr),fun p hp=>HM.out.2 p (bZ.on (jL.out.c1 oI.out m5) hp)⟩⟩
theorem aa6 {N:Nat} {X:Tk→Nat→GP (List Nr)} {B:Tk→Nat→List Nr→GP (Bool × List Nr)} (hX:qI 4 N X) (HB:∀t,pz t 30 [⟨#[38,38]⟩] (X t) (B t)):qI 3 N (fun t n=>bnd (X t n) (fun l=>loop (B t n) n l)):=by
 intro w rb tb i cap t h hN
 have HX:Hid (∀{w:World} {j:Nat},Rd w rb tb cap t j 0 0→t.len - j≤N→Calls Tryz.prog 160 #[.pointer (some ⟨rb,0,none⟩),.int .i64 4] w (aP w rb tb cap t j True (X t))):=fun h1 h2=>hX h1 h2
 have jL:=aD (HB t)
 clear hX HB
 have hl:=h.l
 have jT:=eX
 have oC:=h.good.few
 go_enter Tryz.func160,Tryz.ntmps160
 have q:=Mf.start h
 go_wp2_with fail
 refine(q.ne' (sz w) (aJ)).nd (fun hr=>HX.out hr hN) (fun w' p hk hw=>⟨rfl,.inr ((q.ne' (sz w) (aJ)).aR hk (Wr.fst hw (fun _ _=>Sy.loop (fun l=>jL.out.sy _ l) _ _)))⟩) ?_
 clear q
 intro w1 x1 i1 y1 hl1 m1 q
 have F:=q.f1
 go_wp2_with fail
 refine(Gj (q.ne' (sz w1) x1.a).st.rd).mono ?_
 rintro e w2 ⟨hb2,rfl⟩
 replace q:=(q.ne' (sz w1) x1.a).below hb2
 clear F hb2
 have F:=q.f2
 have HI1:Hid (i<i1):=hl1.out
 clear hl1
 go_wp2_with fail
 go_loopg [6,7] (t.len - i1) (fun g v ok wr=>∃(x:Nf) (y:List Nr) (j:Nat),g=t.len - j∧v=.int .i64 (Gh t j 30 [⟨#[38,38]⟩])∧ok=.bool (jy t j [⟨#[38,38]⟩])∧Mf w rb tb cap t i True wr j [(sz w1,x.a),(sz w,aJ)] [x.t] nl [] [y] []∧Hid ((∀r,EvL (B t) y ⟨j,0,0⟩ r→EvL (B t) y1 ⟨i1,0,0⟩ r)∧∀p,bZ (B t) y ⟨j,0,0⟩ p→bZ (B t) y1 ⟨i1,0,0⟩ p))
 case atStart=>exact⟨x1,y1,i1,rfl,rfl,rfl,q,⟨fun r h=>h,fun p h=>h⟩⟩
 case round=>
  clear F q
  obtain⟨x,y,j,eD,rfl,rfl,q,HM⟩:=hrel
  have HG:=@aG _ @eD
  clear eD
  have F:=q.f2
  cases hop:jy t j [⟨#[38,38]⟩]
  ·have oI:=aD hop
   have zC:=rE (K:=30) hop
   go_wp2_with fail
   go_light
   exact Mf.rt q Tryz.results160 1 (Ev.ak m1 (HM.out.1 _ (EvL.stop (jL.out.c0 oI.out))).ev)
  ·have oI:=aD hop
   have zC:=qc (K:=30) hop
   have lZ:(0:Int)≤(t.pos j:Int)∧(t.pos j:Int)≤7000:=by have:=h.good.qg j;omega
   have htx:=h.good.nK j
   have hjl:=q.st.rd.lt
   have hij:=q.go trivial
   have hj1:=(iY h.good hjl (lH hop).2.1).2
   go_wp2_with fail
   refine q.lf (dx · 30) ?_
   clear q F
   intro w3 q
   have F:=q.f2
   go_wp2_with fail
   refine(q.ne' (sz w3) (nk 30 (t.pos j) nl)).yw hj1 ?_
   clear q F
   intro w4 q
   have F:=q.f3
   go_wp2_with fail
   go_region_law (replace q:=q.drew;go_simp;refine q.nd (fun hr=>HX.out hr (by have:=hr.lt;omega)) (fun w' p hk hw=>⟨rfl,.inr (q.aR hk (Wr.snd m1 (HM.out.2 _ (bZ.here (jL.out.c2 oI.out hw) jL.out.sy)).wr))⟩) ?_;clear q F;intro w5 x5 i5 y5 hl5 m5 q;have F:=q.f3)
   all_goals
    replace q:=(((q.swap).l2 (sz w5) 30 (t.pos j) 0 0 ⟨#[]⟩ lZ (by decide)).fE (sl (sz w5) 2))
    replace q:=(Mf.F7 q 30 (t.pos j) 0 0 ⟨#[]⟩ (sl (sz w5) 2))
    go_wp2_with fail
    refine(Gj (q.pop.wc ?we).st.rd).mono ?_
    case we=>simp[bC,World.setCell_alloc_past,F,Nat.lt_succ_of_lt]
    rintro e w6 ⟨hb6,rfl⟩
    replace q:=(q.pop.wc (by simp[bC,World.setCell_alloc_past,F,Nat.lt_succ_of_lt])).below hb6
    go_wp2_with fail
    have hi5:=q.st.rd.lt
    have mq:=hl5.out
    go_roundg (t.len - i5)
    case measure=>rw[HG.out];omega
    case rel=>exact⟨⟨30,t.pos j,0,0,⟨#[]⟩,_,2,2⟩,_,i5,rfl,rfl,rfl,q,⟨fun r hr=>HM.out.1 r (EvL.on (jL.out.c1 oI.out m5) hr),fun p hp=>HM.out.2 p (bZ.on (jL.out.c1 oI.out m5) hp)⟩⟩
theorem aa7 {N:Nat} {X:Tk→Nat→GP (List Nr)} {B:Tk→Nat→List Nr→GP (Bool × List Nr)} (hX:qI 5 N X) (HB:∀t,pz t 29 [⟨#[61,61]⟩,⟨#[33,61]⟩,⟨#[60,61]⟩,⟨#[62,61]⟩,⟨#[60]⟩,⟨#[62]⟩] (X t) (B t)):qI 4 N (fun t n=>bnd (X t n) (fun l=>bnd (B t n l) (fun r=>ret r.2))):=by
 intro w rb tb i cap t h hN
 have HX:Hid (∀{w:World} {j:Nat},Rd w rb tb cap t j 0 0→t.len - j≤N→Calls Tryz.prog 160 #[.pointer (some ⟨rb,0,none⟩),.int .i64 5] w (aP w rb tb cap t j True (X t))):=fun h1 h2=>hX h1 h2
 have jL:=aD (HB t)
 clear hX HB
 have hl:=h.l
 have jT:=eX
 have oC:=h.good.few
 go_enter Tryz.func160,Tryz.ntmps160
 have q:=Mf.start h
 go_wp2_with fail
 refine(q.ne' (sz w) (aJ)).nd (fun hr=>HX.out hr hN) (fun w' p hk hw=>⟨rfl,.inr ((q.ne' (sz w) (aJ)).aR hk (Wr.fst hw (fun _ _=>Sy.bnd (jL.out.sy _ _) (fun _=>Sy.ret))))⟩) ?_
 clear q
 intro w1 x1 i1 y1 hl1 m1 q
 have F:=q.f1
 go_wp2_with fail
 refine(PO (q.ne' (sz w1) x1.a).st.rd).mono ?_
 rintro e w2 ⟨hb2,rfl⟩
 replace q:=(q.ne' (sz w1) x1.a).below hb2
 clear F hb2
 have F:=q.f2
 have HI1:Hid (i<i1):=hl1.out
 clear hl1
 go_wp2_with fail
 go_loopg [6,7] (t.len - i1) (fun g v ok wr=>∃(x:Nf) (y:List Nr) (j:Nat),g=t.len - j∧v=.int .i64 (Gh t j 29 [⟨#[61,61]⟩,⟨#[33,61]⟩,⟨#[60,61]⟩,⟨#[62,61]⟩,⟨#[60]⟩,⟨#[62]⟩])∧ok=.bool (jy t j [⟨#[61,61]⟩,⟨#[33,61]⟩,⟨#[60,61]⟩,⟨#[62,61]⟩,⟨#[60]⟩,⟨#[62]⟩])∧Mf w rb tb cap t i True wr j [(sz w1,x.a),(sz w,aJ)] [x.t] nl [] [y] []∧Hid (j=i1∧y=y1))
 case atStart=>exact⟨x1,y1,i1,rfl,rfl,rfl,q,⟨rfl,rfl⟩⟩
 case round=>
  clear F q
  obtain⟨x,y,j,eD,rfl,rfl,q,HM⟩:=hrel
  have HG:=@aG _ @eD
  clear eD
  have F:=q.f2
  cases hop:jy t j [⟨#[61,61]⟩,⟨#[33,61]⟩,⟨#[60,61]⟩,⟨#[62,61]⟩,⟨#[60]⟩,⟨#[62]⟩]
  ·have oI:=aD hop
   have zC:=rE (K:=29) hop
   go_wp2_with fail
   go_light
   exact Mf.rt q Tryz.results160 1 (by obtain⟨e1,e2⟩:=HM.out;subst e1;subst e2;exact Ev.ak m1 (Ev.ak (jL.out.c0 oI.out) Ev.ret'))
  ·have oI:=aD hop
   have zC:=qc (K:=29) hop
   have lZ:(0:Int)≤(t.pos j:Int)∧(t.pos j:Int)≤7000:=by have:=h.good.qg j;omega
   have htx:=h.good.nK j
   have hjl:=q.st.rd.lt
   have hij:=q.go trivial
   have hj1:=(iY h.good hjl (lH hop).2.1).2
   go_wp2_with fail
   refine q.lf (dx · 29) ?_
   clear q F
   intro w3 q
   have F:=q.f2
   go_wp2_with fail
   refine(q.ne' (sz w3) (nk 29 (t.pos j) nl)).yw hj1 ?_
   clear q F
   intro w4 q
   have F:=q.f3
   go_wp2_with fail
   go_region_law (replace q:=(q.jm (t.text j)).drew;go_simp;refine q.nd (fun hr=>HX.out hr (by have:=hr.lt;omega)) (fun w' p hk hw=>⟨rfl,.inr (q.aR hk (by obtain⟨e1,e2⟩:=HM.out;subst e1;subst e2;exact Wr.snd m1 (Wr.fst (jL.out.c2 oI.out hw) (fun _ _=>Sy.ret))))⟩) ?_;clear q F;intro w5 x5 i5 y5 hl5 m5 q;have F:=q.f3)
   all_goals
    replace q:=(((q.swap).l2 (sz w5) 29 (t.pos j) 0 0 (t.text j) lZ (by omega)).fE (sl (sz w5) 2))
    replace q:=(Mf.F7 q 29 (t.pos j) 0 0 (t.text j) (sl (sz w5) 2))
    go_wp2_with fail
    go_light
    refine Mf.rt q Tryz.results160 2 (by obtain⟨e1,e2⟩:=HM.out;subst e1;subst e2;exact Ev.ak m1 (Ev.ak (jL.out.c1 oI.out m5) Ev.ret')) ?_
    simp[bC,World.setCell_alloc_past,F,Nat.lt_succ_of_lt]
theorem aa8 {N:Nat} {X:Tk→Nat→GP (List Nr)} {B:Tk→Nat→List Nr→GP (Bool × List Nr)} (hX:qI 6 N X) (HB:∀t,pz t 29 [⟨#[43]⟩,⟨#[45]⟩] (X t) (B t)):qI 5 N (fun t n=>bnd (X t n) (fun l=>loop (B t n) n l)):=by
 intro w rb tb i cap t h hN
 have HX:Hid (∀{w:World} {j:Nat},Rd w rb tb cap t j 0 0→t.len - j≤N→Calls Tryz.prog 160 #[.pointer (some ⟨rb,0,none⟩),.int .i64 6] w (aP w rb tb cap t j True (X t))):=fun h1 h2=>hX h1 h2
 have jL:=aD (HB t)
 clear hX HB
 have hl:=h.l
 have jT:=eX
 have oC:=h.good.few
 go_enter Tryz.func160,Tryz.ntmps160
 have q:=Mf.start h
 go_wp2_with fail
 refine(q.ne' (sz w) (aJ)).nd (fun hr=>HX.out hr hN) (fun w' p hk hw=>⟨rfl,.inr ((q.ne' (sz w) (aJ)).aR hk (Wr.fst hw (fun _ _=>Sy.loop (fun l=>jL.out.sy _ l) _ _)))⟩) ?_
 clear q
 intro w1 x1 i1 y1 hl1 m1 q
 have F:=q.f1
 go_wp2_with fail
 refine(Gl (q.ne' (sz w1) x1.a).st.rd).mono ?_
 rintro e w2 ⟨hb2,rfl⟩
 replace q:=(q.ne' (sz w1) x1.a).below hb2
 clear F hb2
 have F:=q.f2
 have HI1:Hid (i<i1):=hl1.out
 clear hl1
 go_wp2_with fail
 go_loopg [6,7] (t.len - i1) (fun g v ok wr=>∃(x:Nf) (y:List Nr) (j:Nat),g=t.len - j∧v=.int .i64 (Gh t j 29 [⟨#[43]⟩,⟨#[45]⟩])∧ok=.bool (jy t j [⟨#[43]⟩,⟨#[45]⟩])∧Mf w rb tb cap t i True wr j [(sz w1,x.a),(sz w,aJ)] [x.t] nl [] [y] []∧Hid ((∀r,EvL (B t) y ⟨j,0,0⟩ r→EvL (B t) y1 ⟨i1,0,0⟩ r)∧∀p,bZ (B t) y ⟨j,0,0⟩ p→bZ (B t) y1 ⟨i1,0,0⟩ p))
 case atStart=>exact⟨x1,y1,i1,rfl,rfl,rfl,q,⟨fun r h=>h,fun p h=>h⟩⟩
 case round=>
  clear F q
  obtain⟨x,y,j,eD,rfl,rfl,q,HM⟩:=hrel
  have HG:=@aG _ @eD
  clear eD
  have F:=q.f2
  cases hop:jy t j [⟨#[43]⟩,⟨#[45]⟩]
  ·have oI:=aD hop
   have zC:=rE (K:=29) hop
   go_wp2_with fail
   go_light
   exact Mf.rt q Tryz.results160 1 (Ev.ak m1 (HM.out.1 _ (EvL.stop (jL.out.c0 oI.out))).ev)
  ·have oI:=aD hop
   have zC:=qc (K:=29) hop
   have lZ:(0:Int)≤(t.pos j:Int)∧(t.pos j:Int)≤7000:=by have:=h.good.qg j;omega
   have htx:=h.good.nK j
   have hjl:=q.st.rd.lt
   have hij:=q.go trivial
   have hj1:=(iY h.good hjl (lH hop).2.1).2
   go_wp2_with fail
   refine q.lf (dx · 29) ?_
   clear q F
   intro w3 q
   have F:=q.f2
   go_wp2_with fail
   refine(q.ne' (sz w3) (nk 29 (t.pos j) nl)).yw hj1 ?_
   clear q F
   intro w4 q
   have F:=q.f3
   go_wp2_with fail
   go_region_law (replace q:=(q.jm (t.text j)).drew;go_simp;refine q.nd (fun hr=>HX.out hr (by have:=hr.lt;omega)) (fun w' p hk hw=>⟨rfl,.inr (q.aR hk (Wr.snd m1 (HM.out.2 _ (bZ.here (jL.out.c2 oI.out hw) jL.out.sy)).wr))⟩) ?_;clear q F;intro w5 x5 i5 y5 hl5 m5 q;have F:=q.f3)
   all_goals
    replace q:=(((q.swap).l2 (sz w5) 29 (t.pos j) 0 0 (t.text j) lZ (by omega)).fE (sl (sz w5) 2))
    replace q:=(Mf.F7 q 29 (t.pos j) 0 0 (t.text j) (sl (sz w5) 2))
    go_wp2_with fail
    refine(Gl (q.pop.wc ?we).st.rd).mono ?_
    case we=>simp[bC,World.setCell_alloc_past,F,Nat.lt_succ_of_lt]
    rintro e w6 ⟨hb6,rfl⟩
    replace q:=(q.pop.wc (by simp[bC,World.setCell_alloc_past,F,Nat.lt_succ_of_lt])).below hb6
    go_wp2_with fail
    have hi5:=q.st.rd.lt
    have mq:=hl5.out
    go_roundg (t.len - i5)
    case measure=>rw[HG.out];omega
    case rel=>exact⟨⟨29,t.pos j,0,0,(t.text j),_,2,2⟩,_,i5,rfl,rfl,rfl,q,⟨fun r hr=>HM.out.1 r (EvL.on (jL.out.c1 oI.out m5) hr),fun p hp=>HM.out.2 p (bZ.on (jL.out.c1 oI.out m5) hp)⟩⟩
theorem aa9 {N:Nat} {X:Tk→Nat→GP (List Nr)} {B:Tk→Nat→List Nr→GP (Bool × List Nr)} (hX:qI 7 N X) (HB:∀t,pz t 29 [⟨#[42]⟩,⟨#[47]⟩,⟨#[37]⟩] (X t) (B t)):qI 6 N (fun t n=>bnd (X t n) (fun l=>loop (B t n) n l)):=by
 intro w rb tb i cap t h hN
 have HX:Hid (∀{w:World} {j:Nat},Rd w rb tb cap t j 0 0→t.len - j≤N→Calls Tryz.prog 160 #[.pointer (some ⟨rb,0,none⟩),.int .i64 7] w (aP w rb tb cap t j True (X t))):=fun h1 h2=>hX h1 h2
 have jL:=aD (HB t)
 clear hX HB
 have hl:=h.l
 have jT:=eX
 have oC:=h.good.few
 go_enter Tryz.func160,Tryz.ntmps160
 have q:=Mf.start h
 go_wp2_with fail
 refine(q.ne' (sz w) (aJ)).nd (fun hr=>HX.out hr hN) (fun w' p hk hw=>⟨rfl,.inr ((q.ne' (sz w) (aJ)).aR hk (Wr.fst hw (fun _ _=>Sy.loop (fun l=>jL.out.sy _ l) _ _)))⟩) ?_
 clear q
 intro w1 x1 i1 y1 hl1 m1 q
 have F:=q.f1
 go_wp2_with fail
 refine(Gm (q.ne' (sz w1) x1.a).st.rd).mono ?_
 rintro e w2 ⟨hb2,rfl⟩
 replace q:=(q.ne' (sz w1) x1.a).below hb2
 clear F hb2
 have F:=q.f2
 have HI1:Hid (i<i1):=hl1.out
 clear hl1
 go_wp2_with fail
 go_loopg [6,7] (t.len - i1) (fun g v ok wr=>∃(x:Nf) (y:List Nr) (j:Nat),g=t.len - j∧v=.int .i64 (Gh t j 29 [⟨#[42]⟩,⟨#[47]⟩,⟨#[37]⟩])∧ok=.bool (jy t j [⟨#[42]⟩,⟨#[47]⟩,⟨#[37]⟩])∧Mf w rb tb cap t i True wr j [(sz w1,x.a),(sz w,aJ)] [x.t] nl [] [y] []∧Hid ((∀r,EvL (B t) y ⟨j,0,0⟩ r→EvL (B t) y1 ⟨i1,0,0⟩ r)∧∀p,bZ (B t) y ⟨j,0,0⟩ p→bZ (B t) y1 ⟨i1,0,0⟩ p))
 case atStart=>exact⟨x1,y1,i1,rfl,rfl,rfl,q,⟨fun r h=>h,fun p h=>h⟩⟩
 case round=>
  clear F q
  obtain⟨x,y,j,eD,rfl,rfl,q,HM⟩:=hrel
  have HG:=@aG _ @eD
  clear eD
  have F:=q.f2
  cases hop:jy t j [⟨#[42]⟩,⟨#[47]⟩,⟨#[37]⟩]
  ·have oI:=aD hop
   have zC:=rE (K:=29) hop
   go_wp2_with fail
   go_light
   exact Mf.rt q Tryz.results160 1 (Ev.ak m1 (HM.out.1 _ (EvL.stop (jL.out.c0 oI.out))).ev)
  ·have oI:=aD hop
   have zC:=qc (K:=29) hop
   have lZ:(0:Int)≤(t.pos j:Int)∧(t.pos j:Int)≤7000:=by have:=h.good.qg j;omega
   have htx:=h.good.nK j
   have hjl:=q.st.rd.lt
   have hij:=q.go trivial
   have hj1:=(iY h.good hjl (lH hop).2.1).2
   go_wp2_with fail
   refine q.lf (dx · 29) ?_
   clear q F
   intro w3 q
   have F:=q.f2
   go_wp2_with fail
   refine(q.ne' (sz w3) (nk 29 (t.pos j) nl)).yw hj1 ?_
   clear q F
   intro w4 q
   have F:=q.f3
   go_wp2_with fail
   go_region_law (replace q:=(q.jm (t.text j)).drew;go_simp;refine q.nd (fun hr=>HX.out hr (by have:=hr.lt;omega)) (fun w' p hk hw=>⟨rfl,.inr (q.aR hk (Wr.snd m1 (HM.out.2 _ (bZ.here (jL.out.c2 oI.out hw) jL.out.sy)).wr))⟩) ?_;clear q F;intro w5 x5 i5 y5 hl5 m5 q;have F:=q.f3)
   all_goals
    replace q:=(((q.swap).l2 (sz w5) 29 (t.pos j) 0 0 (t.text j) lZ (by omega)).fE (sl (sz w5) 2))
    replace q:=(Mf.F7 q 29 (t.pos j) 0 0 (t.text j) (sl (sz w5) 2))
    go_wp2_with fail
    refine(Gm (q.pop.wc ?we).st.rd).mono ?_
    case we=>simp[bC,World.setCell_alloc_past,F,Nat.lt_succ_of_lt]
    rintro e w6 ⟨hb6,rfl⟩
    replace q:=(q.pop.wc (by simp[bC,World.setCell_alloc_past,F,Nat.lt_succ_of_lt])).below hb6
    go_wp2_with fail
    have hi5:=q.st.rd.lt
    have mq:=hl5.out
    go_roundg (t.len - i5)
    case measure=>rw[HG.out];omega
    case rel=>exact⟨⟨29,t.pos j,0,0,(t.text j),_,2,2⟩,_,i5,rfl,rfl,rfl,q,⟨fun r hr=>HM.out.1 r (EvL.on (jL.out.c1 oI.out m5) hr),fun p hp=>HM.out.2 p (bZ.on (jL.out.c1 oI.out m5) hp)⟩⟩
theorem abb {N:Nat} (hU:bH 201 N (fun t n=>gG t n 2)):qI 7 N (fun t n=>gG t n 2):=by
 intro w rb tb i cap t h hN
 have hl:=h.l
 go_enter Tryz.func160,Tryz.ntmps160
 have q:=Mf.start h
 go_wp2_with fail
 refine(q.ne' (sz w) (aJ)).nd (fun hr=>hU hr hN) (fun w' p hk hw=>⟨rfl,.inr ((q.ne' (sz w) (aJ)).aR hk hw)⟩) ?_
 clear q
 intro w1 x1 i1 y1 hl1 m1 q
 have F:=q.f1
 go_wp2_with fail
 go_light
 exact Mf.rt q Tryz.results160 0 m1
end Go.Proofs.YtdplogkmkgekdaaGreatDoor.Pj
