import Derived.Test.YtdghkacbpebcoaaGreatS49
namespace Go.Proofs.YtdghkacbpebcoaaGreat
open Go.RowKit
open Value renaming slice→J
open List renaming length→O
open Option renaming none→I
open World renaming heap→U
open _root_.Array renaming size→E
open Obj renaming cells→Ob
set_option linter.all false
set_option maxRecDepth 100000
set_option maxHeartbeats 0
section
variable{M:MK} {H Xd Xf Xi mb:Nat} {Mu:Nat->Prop} {fns au trs:VV} {w w':World}
section
variable{w w1 wr w':World} {mb:Nat} {M:MK} {trs au fns:VV} {Xd Xi Xf:Nat} {Mu:Nat->Prop} {H:Nat} {C Iz F I2 F2:Nat} {k a:Int} {ds:List Dd} {fns':VV} {fo:OA} {fc:Nat} {ims':VV} {io:OA} {ic:Nat} {Mu':Nat->Prop} {H' Xi' Xf':Nat}
theorem fU.cv {d:Nat} {K:CK} {f:Nat->Prop} {X n:Nat} {e:Ending} (h:fU w mb d M K f X n e w'):∃how next one b c,bJ w' d K how next one b c:=by
 obtain⟨_,_,_,_,_,_,_,_,_,_,_,_,_,_,_,how,next,one,b,c,_,_,_,_,i,_⟩:=h;exact⟨how,next,one,b,c,i⟩
theorem FE.base (q:FE w1 mb M trs au fns Xd Xi Xf Mu H C Iz F wr k a ds fns' fo fc ims' io ic Mu' H' Xi' Xf') (b:Below (E (U w)) w w1) (e:Iz<=I2) (hF:F<=F2):FE w mb M trs au fns Xd Xi Xf Mu H C I2 F2 wr k a ds fns' fo fc ims' io ic Mu' H' Xi' Xf':=by
 have c:=b.size;have f:=q.il;have i:=q.xi;have j:=q.xf;exact⟨q.s,q.dl,(KX.al b).trans (q.kx.mono (λ_ _ h=>h) c),q.m1,λd l b=>q.m2 d oM b,q.hf,q.hH,oM,q.fl,q.fe,oM,lT q.xf (Nat.add_le_add_left (Nat.mul_le_mul_right 96100 hF) _)⟩
end
theorem xV {h:Nat} (hS:MS w mb M trs au fns Xd Xi Xf Mu H) {ct:OA} {cu:Nat} (ee:M.fv=J ct (O fns) cu) {ivo:OA} {ivc:Nat} (ef:M.iv=J ivo (O au) ivc) {mod:Nat} (dh:mod<O M.ms) {B0:Nat} (b7:∀b,Mu b->B0<=b) (eg:B0<=E (U w)) {pos n m:Int} {name:ByteArray} {ko:OA} {kc:Nat} {ks:VV} (bj:cU B0 w (J ko (O ks) kc) ks) (di:∀i,i<O ks->∃g,ko=some ⟨g,0,I⟩) (bS:∀x∈ks,isNode (λb=>b<B0) True (h+4) w x) (dj:∀x∈ks.map az,x=2\/x=3\/x=6\/x=7\/x=108) (fu:(ks.map (aG (h+4) w)).sum<=96100) (fv:O fns+(ks.map (aG (h+4) w)).sum<=199999) (fw:O au+O ks<=199999) (dk:Int):
 Calls Tryz.prog 27 #[.pointer (some ⟨mb,0,I⟩),.int .i64 mod,.agg (ae 1 pos n m name (J ko (O ks) kc)),.int .i64 dk] w (uk w mb M trs au fns Xd Xi Xf Mu H (ks.map bB).sum (O ks) (ks.map (aG (h+4) w)).sum):=by
 have cv:B0<=mb:=b7 mb hS.dG;have fx:=bj.len.2;obtain⟨a8,bx⟩:=al1 w (Ob (ae 1 pos n m name (J ko (O ks) kc)) 48)
 have eh:Hid (∀s,s<O ks->∃g T j u o q B X r,ko=some ⟨g,0,I⟩/\g<B0/\ks[s]? =some (ae T j u o q (J B X r)).toList/\(fJ T u X=2\/fJ T u X=3\/fJ T u X=6\/fJ T u X=7\/fJ T u X=108)/\∀t:World,KX Mu (E (U w)) w t->(∀V,V<11->t.cell? ⟨g,s*11+V,I⟩=(ae T j u o q (J B X r)).toList[V]?)/\isNode (λb=>b<B0) True (h+4) t (ae T j u o q (J B X r)).toList/\aG (h+4) t (ae T j u o q (J B X r)).toList=aG (h+4) w (ae T j u o q (J B X r)).toList):=by
  intro s ba;obtain⟨x,ac⟩:∃x,ks[s]? =some x:=⟨_,gG ba⟩;have b8:=mG ac;obtain⟨T,j,u,o,q,B,X,r,rfl,-⟩:=isNode.cells (bS x b8);obtain⟨g,ab⟩:=di s ba
  have ag:g<B0:=by
   obtain⟨dl,P,ak,ag,-⟩:=bj.nth ac;rw[ab] at ak;simp at ak;omega
  refine⟨g,T,j,u,o,q,B,X,r,ab,ag,ac,dj _ (List.mem_map_of_mem (f:=az) b8),λt ai=>?_⟩;have bb:aq (λb=>b<B0) w t:=λb z al=>ai.block b al (λL=>oH (b7 b L));obtain⟨dl,P,ak,-,ei⟩:=(bj.frame bb eg).nth ac;rw[ab] at ak;obtain⟨rfl,rfl⟩:g=dl/\P=0:=by simp at ak;exact⟨ak.1,ak.2.symm⟩
  refine⟨λV bk=>?_,isNode.frame bb _ _ (bS _ b8),aT bb _ _ (bS _ b8) _⟩;have:=ei V bk;rw[Nat.zero_add] at this;exact this
 have ej:Hid (∀i,((ks.map bB).take i).sum<=((ks.map (aG (h+4) w)).take i).sum):=λi=>fR (λx ac=>ke (h:=h+2) (bS x ac)) i;have b9:Hid (MS w mb M trs au fns Xd Xi Xf Mu H/\Below (E (U w)) w (w.alloc (Ob (ae 1 pos n m name (J ko (O ks) kc)) 48))/\(∀b,Mu b->B0<=b)/\(∀b,Mu b->b<E (U w))):=⟨hS,a8,b7,hS.mlt⟩;have ek:Hid (∀{i:Nat} {x:List Value},ks[i]? =some x->(ks.map bB)[i]? =some (bB x)/\(ks.map (aG (h+4) w))[i]? =some (aG (h+4) w x)):=λ{i x} ac=>⟨by rw[List.getElem?_map,ac];rfl,by rw[List.getElem?_map,ac];rfl⟩;have cw:FE (w.alloc (Ob (ae 1 pos n m name (J ko (O ks) kc)) 48)) mb M trs au fns Xd Xi Xf Mu H 0 0 0 (w.alloc (Ob (ae 1 pos n m name (J ko (O ks) kc)) 48)) M.fk M.fa M.ds fns ct cu au ivo ivc Mu H Xi Xf:=⟨by rw[<-ee,<-ef];exact hS.below a8,Q,KX.refl _ _ _,λ_ h=>h,λ_ _ h=>h,λ_=>rfl,lR _,lR _,lR _,λ_=>rfl,lR _,oM⟩;obtain⟨w1,bz⟩:∃w1,w1=w.alloc (Ob (ae 1 pos n m name (J ko (O ks) kc)) 48):=⟨_,Q⟩;have fy:E (U w1)=E (U w)+1:=by rw[bz];simp
 have ap:Hid (∀{t:World},KX Mu (E (U w1)) w1 t->KX Mu (E (U w)) w t/\t.heap[E (U w)]? =some (Ob (ae 1 pos n m name (J ko (O ks) kc)) 48 (0,0))):=λ{t} ai=>by
  rw[bz] at ai;refine⟨(KX.al b9.out.2.1).trans (ai.mono (λ_ _ h=>h) sQ),(ai.block _ sQ (λL=>?_)).trans bx⟩;have:=b9.out.2.2.2 _ L;omega
 have dm:Hid (Below (E (U w)) w w1):=by rw[bz];exact a8
 rw[<-bz] at cw;clear hS b7 bj di bS dj a8 bx;have cx:=λP=>cell_of_row w1 _ P _ 48 (0,0) (ap.out (KX.refl _ _ _)).2;have cy:E (U w)<E (U w1):=oM;clear cx cy;go_enter Tryz.func27,Tryz.ntmps27
 go_wp2_with fail;rw[<-bz];clear bz;go_loopg [3,8,10,11,12,13,14,15,19] (O ks) (λel em _ _ _ _ _ _ _ dn wr=>∃(s:Nat) (bT:Int) (k a:Int) (ds:List Dd) (fns':VV) (fo:OA) (fc:Nat) (ims':VV) (io:OA) (ic:Nat) (Mu':Nat->Prop) (H' Xi' Xf':Nat),el=O ks - s/\dn=.int .i64 s/\em=.int .i64 bT/\s<=O ks/\FE w1 mb M trs au fns Xd Xi Xf Mu H ((ks.map bB).take s).sum s ((ks.map (aG (h+4) w)).take s).sum wr k a ds fns' fo fc ims' io ic Mu' H' Xi' Xf')
 case atStart=>exact⟨0,dk,M.fk,M.fa,M.ds,fns,ct,cu,au,ivo,ivc,Mu,H,Xi,Xf,Q,Q,Q,zL _,by rw[List.take_zero,List.sum_nil,List.take_zero,List.sum_nil];exact cw⟩
 case round=>
  clear cw;obtain⟨s,bT,k,a,ds,fns',fo,fc,ims',io,ic,Mu',H',Xi',Xf',dp,rfl,rfl,dq,y⟩:=hrel;have b':Hid (gk=O ks - s):=dp;clear dp;have cx:=λP=>cell_of_row wr _ P _ 48 (0,0) (ap.out y.kx).2;have cy:E (U w)<E (U wr):=(gE (ap.out y.kx).2).1;by_cases ba:s<O ks
  ·have en:(s:Int)<(O ks:Int):=oM;obtain⟨g,T,j,u,o,q,B,X,r,ab,ag,eo,bU,bV⟩:=eh.out s ba;obtain rfl:ko=some ⟨g,0,I⟩:=ab;have bl:=bV wr (ap.out y.kx).1;have bW:g<E (U wr):=oH (ap.out y.kx).1.size;have ep:=qh bl.1;have dr:=ek.out eo;have ar:Hid ((ks.map bB)[s]? =some (bB (ae T j u o q (J B X r)).toList)/\(ks.map (aG (h+4) w))[s]? =some (aG (h+4) w (ae T j u o q (J B X r)).toList)):=dr
   have bm:Hid (aG (h+4) w (ae T j u o q (J B X r)).toList<=96100/\O fns'+aG (h+4) w (ae T j u o q (J B X r)).toList<=199999/\O ims'<=199999):=by
    have bA:=nP ar.out.2;have cA:=aV ar.out.2;have eq:=bL (ks.map (aG (h+4) w)) (s+1);have du:=y.fl;have fz:=y.il;have fA:((ks.map bB).take s).sum<=((ks.map (aG (h+4) w)).take s).sum:=ej.out s;show _/\_/\_;omega
   have aX:=y.below (al1 wr (Ob (ae T j u o q (J B X r)) 48)).1;clear bl dr;by_cases cB:k=0
   ·subst cB;by_cases cC:T=8
    ·subst cC
     have er:(X:Int)=u+3:=by
      unfold fJ at bU;split at bU
      ·rename_i cD
       exact cD.2
      ·split at bU
       ·rename_i cD
        exact absurd cD dC
       ·exact absurd bU dC
     have bl:=bV wr (ap.out y.kx).1;obtain⟨es,cE,bY,bZ,b0,-,-,ca,-,-⟩:=bl.2.1.kids;obtain⟨fB,fC,fD,b1,-,-,-,-⟩:=b0.fn Q;obtain⟨dv,fE,cF,dw,-⟩:=List.map_eq_cons_iff.1 b1;have cG:es[0]? =some dv:=by rw[cF];rfl
     have cb:=bZ dv (mG cG);obtain⟨et,bC,bn,bD,bE,bo,eu,bF,rfl,-⟩:=isNode.cells cb;obtain rfl:et=9:=dt (n:=bn) (l:=eu) dw dC;obtain⟨bc,rfl,cH⟩:=vr (h:=h) cb;obtain⟨c,dx⟩:=ca 0 (by rw[cF];simp);obtain⟨ev,ew,ak,ex,dA⟩:=bY.nth cG;rw[dx] at ak;obtain⟨rfl,rfl⟩:c=ev/\ew=0:=by simp at ak;exact⟨ak.1,ak.2.symm⟩
     obtain rfl:B=some ⟨c,0,I⟩:=dx;have dB:∀V,V<11->wr.cell? ⟨c,V,I⟩=(ae 9 bC bn bD bE (J bo (O bc) bF)).toList[V]? :=λV bk=>by have:=dA V bk;simpa using this
     have cI:B0<=E (U wr):=oH (ap.out y.kx).1.size;clear cE bY bZ b0 ca b1 cF cG ak dA dw;obtain⟨aa,d,rfl,rfl,dD⟩:=tU (h:=h+2) bl.2.1
     have b2:FK B0 (h+2) wr (some ⟨c,0,I⟩) r aa d (aG (h+4) w (ae 8 j (O d:Int) o q (J (some ⟨c,0,I⟩) (O aa) r)).toList):=by
      have ab:=bl.2.2;have f:=dD;rw[show aG (h+2+2) wr (ae 8 j (O d:Int) o q (J (some ⟨c,0,I⟩) (O aa) r)).toList=aG (h+4) w (ae 8 j (O d:Int) o q (J (some ⟨c,0,I⟩) (O aa) r)).toList from ab] at f;exact f
     obtain⟨aY,cc⟩:∃aY,aY=aG (h+4) w (ae 8 j (O d:Int) o q (J (some ⟨c,0,I⟩) (O aa) r)).toList:=⟨_,Q⟩;rw[<-cc] at b2 bm ar;have fF:O d+3<=O aa:=oM;have fG:(0:Int)<(O aa:Int):=oM;have fH:=b2.km;obtain⟨a8,bx,b3⟩:=dW wr (Ob (ae 8 j (O d:Int) o q (J (aS c) (O aa) r)) 48) (Ob (dy ({mb:=mb,mod:=mod,aD:=I,cJ:=0,ba:=[],bZ:=I,tcp:=0,bt:=[],bO:=false,sk:=0,sn:=0,iJ:=I,iK:=0,iL:=0,iM:=I,iN:=0,iO:=0}:CK) 0 0 0 0 0) 114);obtain⟨N,cd⟩:∃N,N=((wr.alloc (Ob (ae 8 j (O d:Int) o q (J (aS c) (O aa) r)) 48)).alloc (Ob (dy ({mb:=mb,mod:=mod,aD:=I,cJ:=0,ba:=[],bZ:=I,tcp:=0,bt:=[],bO:=false,sk:=0,sn:=0,iJ:=I,iK:=0,iL:=0,iM:=I,iN:=0,iO:=0}:CK) 0 0 0 0 0) 114)):=⟨_,Q⟩;have fI:E (U N)=E (U wr)+2:=by rw[cd];simp
     rw[<-cd] at a8 bx b3;have cJ:=y.s.mlt;have ce:IE N mb (E (U wr)+1) ({M with ds:=ds,fv:=J fo (O fns') fc,iv:=J io (O ims') ic}.bu 0 a) trs ims' fns' Xd Xi' Xf' (λb=>Mu' b\/b=E (U wr)+1) H' N 0 a ({mb:=mb,mod:=mod,aD:=I,cJ:=0,ba:=[],bZ:=I,tcp:=0,bt:=[],bO:=false,sk:=0,sn:=0,iJ:=I,iK:=0,iL:=0,iM:=I,iN:=0,iO:=0}:CK) 0 0 0 0 0:=⟨y.s.grow a8 (λb z=>.inl z) (λb z=>by rcases z with z|z;(have:=cJ b z;omega);omega) (λb al z=>by rcases z with z|z;exact z;omega),KX.refl _ _ _,b3,.inr Q,λ_=>rfl⟩
     have dE:∀b,Mu' b->B0<=b:=λb z=>by
      by_cases cK:b<E (U w1)
      ·exact b9.out.2.2.1 b (y.m2 b cK z)
      ·omega
     have A:Hid (∀{t:World},KX (λb=>Mu' b\/b=E (U wr)+1) (E (U N)) N t->KX Mu (E (U w1)) w1 t/\aq (λb=>b<B0) wr t/\t.heap[E (U wr)]? =some (Ob (ae 8 j (O d:Int) o q (J (aS c) (O aa) r)) 48 (0,0))):=λ{t} ai=>by
      have ey:=y.kx.size;have dF:KX (λb=>Mu' b\/b=E (U wr)+1) (E (U wr)) wr t:=(KX.al a8).trans (ai.mono (λ_ _ h=>h) oM);refine⟨y.kx.trans (dF.mono (λb al z=>by rcases z with z|z;exact y.m2 b al z;omega) ey),λb z al=>dF.block b al (λL=>by rcases L with L|L;(have:=dE b L;omega);omega),(ai.block _ oM (λL=>?_)).trans bx⟩;rcases L with L|L
      ·have:=cJ _ L;omega
      ·omega
     have R:Hid (∀{t:World},aq (λb=>b<B0) wr t->(∀V,V<11->t.cell? ⟨c,V,I⟩=(ae 9 bC bn bD bE (J bo (O bc) bF)).toList[V]?)/\isNode (λb=>b<B0) True (h+3) t (ae 9 bC bn bD bE (J bo (O bc) bF)).toList/\GK B0 t bo bc/\FK B0 (h+2) t (aS c) r aa d aY):=λ{t} bb=>⟨λV bk=>(World.cell?_of_block (w:=wr) (a:=⟨c,V,I⟩) (bb c ex oM)).trans (dB V bk),isNode.frame bb _ _ cb,cH.frame bb cI,b2.frame bb cI b2.yQ⟩;have fK:=cH.len;have cL:mb≠E (U wr)+1:=oH y.s.mk'.lt;clear bl dD b2 cH cb dB a8 bx b3 er bU cc;go_upto_region 8 with(go_at_call 30;refine(bM aX.s.mk').mono ?_;rintro cM cN ⟨rfl,aj⟩;replace aj:=aj.symm;subst aj)
     generalize hq:World.alloc (World.alloc wr _) _=ez;obtain rfl:N=ez:=cd.trans hq;clear cd hq ep cx cy bW;have bp:=λP=>cell_of_row N _ P _ 48 (0,0) (A.out (KX.refl _ _ _)).2.2;have bd:E (U wr)<E (U N):=oM;have cO:N.cell? ⟨c,0,I⟩=some (vN 9):=(R.out (A.out (KX.refl _ _ _)).2.1).1 0 dC;have cP:N.cell? ⟨c,1,I⟩=some (vN bC):=(R.out (A.out (KX.refl _ _ _)).2.1).1 1 dC;have cQ:N.cell? ⟨c,2,I⟩=some (vN bn):=(R.out (A.out (KX.refl _ _ _)).2.1).1 2 dC;have cR:N.cell? ⟨c,3,I⟩=some (vN bD):=(R.out (A.out (KX.refl _ _ _)).2.1).1 3 dC;have cS:N.cell? ⟨c,4,I⟩=some (.string bE):=(R.out (A.out (KX.refl _ _ _)).2.1).1 4 dC;have cT:N.cell? ⟨c,5,I⟩=some (J bo (O bc) bF):=(R.out (A.out (KX.refl _ _ _)).2.1).1 5 dC;have cV:N.cell? ⟨c,6,I⟩=some (vN 0):=(R.out (A.out (KX.refl _ _ _)).2.1).1 6 dC;have cW:N.cell? ⟨c,7,I⟩=some (vN 0):=(R.out (A.out (KX.refl _ _ _)).2.1).1 7 dC;have cX:N.cell? ⟨c,8,I⟩=some aH:=(R.out (A.out (KX.refl _ _ _)).2.1).1 8 dC;have cY:N.cell? ⟨c,9,I⟩=some aH:=(R.out (A.out (KX.refl _ _ _)).2.1).1 9 dC;have bq:N.cell? ⟨c,10,I⟩=some aH:=(R.out (A.out (KX.refl _ _ _)).2.1).1 10 dC;have bW:c<E (U N):=oM;go_upto_region 9 with(go_at_call 43;refine(pz (h:=h+2) (K:=({mb:=mb,mod:=mod,aD:=I,cJ:=0,ba:=[],bZ:=I,tcp:=0,bt:=[],bO:=false,sk:=0,sn:=0,iJ:=I,iK:=0,iL:=0,iM:=I,iN:=0,iO:=0}:CK)) ce.s.mk' ce.cv cL oM cv (R.out (A.out ce.kx).2.1).2.1).mono ?_;rintro ab W ⟨dG,dI,bG,bf,bh,ao,eB,b3,rfl,dJ,dK,dL,dM,dN,dO,-,dP⟩)
     have af:=ce.nQ dM dK dL dP;have fL:=dM.size;have eC:O bG<=30000:=oM;have eD:O ao<=30000:=oM;have eE:Hid (∀b,Mu' b->b<E (U wr)):=cJ
     have dQ:Hid (∀{t:World},KX (λb=>Mu' b\/b=E (U wr)+1) (E (U W)) W t->t.ownsRow 0 9 1 (J dG (O bG) dI) (O bG) (bX bG)/\t.ownsRow 0 9 1 (J bf (O ao) bh) (O ao) (bX ao)):=λ{t} ai=>by
      have dR:∀(v:Value) (n:Nat) (cZ:List Value),W.ownsRow (E (U N)) 9 1 v n cZ->t.ownsRow 0 9 1 v n cZ:=λv n cZ bj=>ah (gy bj) (λb z al=>ai.block b al (λL=>by
       have bA:=(bj.lt b z).1;rcases L with L|L
       ·have:=eE.out b L;omega
       ·omega))
      exact⟨dR _ _ _ dN,dR _ _ _ dO⟩
     have fM:Hid (O bG+O ao=O bc):=dJ;obtain⟨aZ,cf⟩:∃aZ,aZ=({mb:=mb,mod:=mod,aD:=I,cJ:=0,ba:=[],bZ:=I,tcp:=0,bt:=[],bO:=false,sk:=0,sn:=0,iJ:=I,iK:=0,iL:=0,iM:=I,iN:=0,iO:=0}:CK).nm dG dI bG bf bh ao:=⟨_,Q⟩
     have dS:Hid (∀{t:World} {c0 c1:Int},KX (λb=>Mu' b\/b=E (U wr)+1) (E (U W)) W t->PI t mb (({M with ds:=ds,fv:=J fo (O fns') fc,iv:=J io (O ims') ic}.bu 0 a).bu c0 c1) (O trs)->Cx t (E (U wr)+1) aZ (({M with ds:=ds,fv:=J fo (O fns') fc,iv:=J io (O ims') ic}.bu 0 a).bu c0 c1) (O trs) (λ_=>False) 1 1):=λ{t c0 c1} ai eF=>by
      have dT:=dz (S:=λ_=>False) (D:=O ds) (w:=t) (kind:=0) (n:=0) ⟨λab=>absurd ab dC,dC,dC⟩;rw[cf];exact⟨(dQ.out ai).1,eC,(dQ.out ai).2,eD,eF,dh,dT.1,λ_ ac=>ac.elim,dT.2,lR _⟩
     have dU:Hid (Calls Tryz.prog 49 #[.pointer (aS mb),.agg (ae 9 bC bn bD bE (J bo (O bc) bF)),.pointer (aS (E (U wr)+1)),.bool true] W (mW W mb (E (U wr)+1) (({M with ds:=ds,fv:=J fo (O fns') fc,iv:=J io (O ims') ic}.bu 0 a).bu eB b3) aZ 0)):=oe (dS.out (KX.refl _ _ _) af.s.pi) (by rw[cf];exact af.cv) af.s.mk' cL (by rw[cf]) oM cv (λ_ ac=>ac.elim) (R.out (A.out af.kx).2.1).2.2.1 true;clear dJ bp bd cO cP cQ cR cS cT cV cW cX cY bq bW dK dL dP dN dO;have bp:=λP=>cell_of_row W _ P _ 48 (0,0) (A.out af.kx).2.2;have bd:E (U wr)<E (U W):=oM;have cO:W.cell? ⟨c,0,I⟩=some (vN 9):=(R.out (A.out af.kx).2.1).1 0 dC;have cP:W.cell? ⟨c,1,I⟩=some (vN bC):=(R.out (A.out af.kx).2.1).1 1 dC;have cQ:W.cell? ⟨c,2,I⟩=some (vN bn):=(R.out (A.out af.kx).2.1).1 2 dC;have cR:W.cell? ⟨c,3,I⟩=some (vN bD):=(R.out (A.out af.kx).2.1).1 3 dC;have cS:W.cell? ⟨c,4,I⟩=some (.string bE):=(R.out (A.out af.kx).2.1).1 4 dC;have cT:W.cell? ⟨c,5,I⟩=some (J bo (O bc) bF):=(R.out (A.out af.kx).2.1).1 5 dC;have cV:W.cell? ⟨c,6,I⟩=some (vN 0):=(R.out (A.out af.kx).2.1).1 6 dC;have cW:W.cell? ⟨c,7,I⟩=some (vN 0):=(R.out (A.out af.kx).2.1).1 7 dC;have cX:W.cell? ⟨c,8,I⟩=some aH:=(R.out (A.out af.kx).2.1).1 8 dC;have cY:W.cell? ⟨c,9,I⟩=some aH:=(R.out (A.out af.kx).2.1).1 9 dC;have bq:W.cell? ⟨c,10,I⟩=some aH:=(R.out (A.out af.kx).2.1).1 10 dC;have bW:c<E (U W):=oM;go_upto_region 10 with(go_at_call 49;refine dU.out.mono ?_;rintro ab br ⟨eG,eH,eI,eJ,dV,dX,av,ax,ay,aA,on,aB,rfl,c2,dY,dZ,cg,eK,eL,eM⟩)
     have bs:=af.nQ cg c2 dY dZ;have fN:=cg.size;have eN:KX (λb=>Mu' b\/b=E (U wr)+1) (E (U W)) W br:=cg.mono (λb _ ab=>by rcases ab with rfl|rfl;exact .inr rfl;exact .inl y.s.dG) (lR _);have cc:6100*(aY*1)<=17592186044416:=lT (Nat.mul_le_mul_left 6100 (by rw[Nat.mul_one];exact bm.out.1)) dC;have d0:bJ br (E (U wr)+1) aZ eG eH 0 eI eJ:=c2;have eP:Hid (Calls Tryz.prog 47 #[.pointer (aS mb),.agg (ae 8 j (O d:Int) o q (J (aS c) (O aa) r)),.pointer (aS (E (U wr)+1))] br (fU br mb (E (U wr)+1) (({M with ds:=ds,fv:=J fo (O fns') fc,iv:=J io (O ims') ic}.bu 0 a).bu dV dX) aZ (λb=>False/\b<E (U br)) (aY*1) (O d))):=sf (dS.out eN bs.s.pi) d0 bs.s.mk' cL (by rw[cf]) oM cv (λ_ ac=>ac.elim) (R.out (A.out bs.kx).2.1).2.2.2 cc;clear bp bd cO cP cQ cR cS cT cV cW cX cY bq bW c2 dY dZ cg eK dU eL eM;have bp:=λP=>cell_of_row br _ P _ 48 (0,0) (A.out bs.kx).2.2;have bd:E (U wr)<E (U br):=oM;go_upto_region 13 with(go_at_call 47;refine eP.out.mono ?_;rintro ab bt d1;obtain⟨ch,ci,cj,ck,cl,eQ⟩:=d1.cv;obtain⟨aC,aD,aE,aF,bH,bI,bK,aI,aJ,aK,aL,aN,aO,aP,aQ,cm,cn,co,rfl,eR,eS,fO,eT,eU,-⟩:=bs.s.sig d0 (.inr rfl) (λb z=>z.1.elim) d1)
     obtain⟨bN,d2⟩:=al1 bt (Ob (eO aC (J aA on aB) (J av (O ay) ax) aD (O aF) aE (vN aI) (vN aJ) (J aK aL aN) (J aO aP aQ)) 79);generalize hq:World.alloc bt _=G;have d3:bt.alloc (Ob (eO aC (J aA on aB) (J av (O ay) ax) aD (O aF) aE (vN aI) (vN aJ) (J aK aL aN) (J aO aP aQ)) 79)=G:=hq;rw[d3] at bN d2;clear hq d3;have d4:KX (λb=>Mu' b\/b=E (U wr)+1) (E (U N)) N bt:=bs.kx.trans (eT.mono (λb _ ab=>by rcases ab with rfl|rfl;exact .inr rfl;exact .inl y.s.dG) bs.kx.size);have bO:KX (λb=>Mu' b\/b=E (U wr)+1) (E (U N)) N G:=d4.trans ((KX.al bN).mono (λ_ _ h=>h) d4.size);have c3:=eR.below bN;have c4:=(A.out bO).2.2;have eV:bJ G (E (U wr)+1) aZ ch ci cj ck cl:=eQ.below bN;have eW:=eU.frame (λb _ al=>bN.block b al) bN.size;have d5:=(R.out (A.out bO).2.1).2.2.2;obtain⟨c5,c6⟩:∃c5,aa[O d+2]? =some c5:=⟨_,gG oM⟩;obtain⟨a0,a1,a2,a3,a4,a5,a6,a7,rfl,-⟩:=isNode.cells (d5.node c5 (mG c6));obtain⟨eX,eY,cp,-,d6⟩:=d5.row.nth c6;obtain⟨rfl,rfl⟩:c=eX/\eY=0:=by simp at cp;exact⟨cp.1,cp.2.symm⟩
     have fP:(0:Int)<=(O d:Int)+2:=oM;have fQ:IntKind.i64.wrap ((O d:Int)+2)=(O d:Int)+2:=by rw[IntKind.wrap_i64];omega
     have fS:((O d:Int)+2)<(O aa:Int):=oM;have fT:=bO.size
     have eZ:Hid (¬(λb=>Mu' b\/b=E (U wr)+1) c):=λL=>by
      rcases L with L|L
      ·have:=dE c L;omega
      ·omega
     have b4:Hid (∀{e:World},KT (λa9=>a9≠129/\a9≠66) G e->KX (λb=>Mu' b\/b=E (U wr)+1) (E (U G)) G e->(Ce e (E (U wr)) (ae 8 j (O d:Int) o q (J (aS c) (O aa) r)))/\(Ce e (E (U wr)+1) (dy aZ ch ci cj ck cl))/\(Ce e (E (U bt)) (eO aC (J aA on aB) (J av (O ay) ax) aD (O aF) aE (vN aI) (vN aJ) (J aK aL aN) (J aO aP aQ)))/\e.cell? ⟨c,((O d:Int)+2).toNat*11,I⟩=some (vN a0)/\e.cell? ⟨c,((O d:Int)+2).toNat*11+1,I⟩=some (vN a1)/\e.cell? ⟨c,((O d:Int)+2).toNat*11+2,I⟩=some (vN a2)/\e.cell? ⟨c,((O d:Int)+2).toNat*11+3,I⟩=some (vN a3)/\e.cell? ⟨c,((O d:Int)+2).toNat*11+4,I⟩=some (.string a4)/\e.cell? ⟨c,((O d:Int)+2).toNat*11+5,I⟩=some (J a5 a6 a7)/\e.cell? ⟨c,((O d:Int)+2).toNat*11+6,I⟩=some (vN 0)/\e.cell? ⟨c,((O d:Int)+2).toNat*11+7,I⟩=some (vN 0)/\e.cell? ⟨c,((O d:Int)+2).toNat*11+8,I⟩=some aH/\e.cell? ⟨c,((O d:Int)+2).toNat*11+9,I⟩=some aH/\e.cell? ⟨c,((O d:Int)+2).toNat*11+10,I⟩=some aH):=λ{e} c7 ai=>by
      have ag:∀V,V<11->e.cell? ⟨c,((O d:Int)+2).toNat*11+V,I⟩=(ae a0 a1 a2 a3 a4 (J a5 a6 a7)).toList[V]? :=λV bk=>by
       rw[show((O d:Int)+2).toNat=O d+2 from by omega];have bA:=d6 V bk;rw[Nat.zero_add] at bA;exact(ai.cell (p:=⟨c,(O d+2)*11+V,I⟩) (by show c<_;omega) eZ.out).trans bA
      exact⟨λP=>cell_of_row e _ P _ 48 (0,0) (aw c7 c4 dC),λP=>cell_of_row e _ P _ 114 (0,0) (aw c7 eV dC),λP=>cell_of_row e _ P _ 79 (0,0) (aw c7 d2 dC),ag 0 dC,ag 1 dC,ag 2 dC,ag 3 dC,ag 4 dC,ag 5 dC,ag 6 dC,ag 7 dC,ag 8 dC,ag 9 dC,ag 10 dC⟩
     have KB:Hid (∀{e:World},Below (E (U G)) G e->(Ce e (E (U wr)) (ae 8 j (O d:Int) o q (J (aS c) (O aa) r)))/\(Ce e (E (U wr)+1) (dy aZ ch ci cj ck cl))/\(Ce e (E (U bt)) (eO aC (J aA on aB) (J av (O ay) ax) aD (O aF) aE (vN aI) (vN aJ) (J aK aL aN) (J aO aP aQ)))/\e.cell? ⟨c,((O d:Int)+2).toNat*11,I⟩=some (vN a0)/\e.cell? ⟨c,((O d:Int)+2).toNat*11+1,I⟩=some (vN a1)/\e.cell? ⟨c,((O d:Int)+2).toNat*11+2,I⟩=some (vN a2)/\e.cell? ⟨c,((O d:Int)+2).toNat*11+3,I⟩=some (vN a3)/\e.cell? ⟨c,((O d:Int)+2).toNat*11+4,I⟩=some (.string a4)/\e.cell? ⟨c,((O d:Int)+2).toNat*11+5,I⟩=some (J a5 a6 a7)/\e.cell? ⟨c,((O d:Int)+2).toNat*11+6,I⟩=some (vN 0)/\e.cell? ⟨c,((O d:Int)+2).toNat*11+7,I⟩=some (vN 0)/\e.cell? ⟨c,((O d:Int)+2).toNat*11+8,I⟩=some aH/\e.cell? ⟨c,((O d:Int)+2).toNat*11+9,I⟩=some aH/\e.cell? ⟨c,((O d:Int)+2).toNat*11+10,I⟩=some aH):=λ{e} z=>b4.out (KT.below z) (KX.al z);have fV:G.cell? ⟨mb,4,I⟩=some (J fo (O fns') fc):=by rw[c3.mk'.cell 4];rfl
     have fW:=c3.mk'.lt;have fX:mb<E (U G)+1:=oM;obtain⟨bP,cq⟩:∃bP:MK,bP=((({M with ds:=ds,fv:=J fo (O fns') fc,iv:=J io (O ims') ic}.bu 0 a).bu dV dX).bu cm cn):=⟨_,Q⟩;have e0:bP.fv=J fo (O fns') fc:=by rw[cq]
     have e1:O bP.ds=O ds:=by rw[cq]
     have d7:MS G.drew mb bP trs ims' fns' Xd Xi' Xf' (λb=>Mu' b\/b=E (U wr)+1) co:=by
      rw[cq];exact c3.below ((Below.refl (E (U G)) G).drew)
     have cr:=(Below.refl (E (U G)) G).drew;have d8:=λb5=>d7.addFn (fo:=fo) (fc:=fc) e0 (cs:=(rB q mod j (o==1) (-1) (-1) bf (O ao) bh aC aA on aB av (O ay) ax aD (O aF) aE aI aJ (J aK aL aN) (J aO aP aQ) (J bH (O bK) bI) a0 a1 a2 a3 a4 a5 a6 a7)) (Y:=aY) (by rw[e1];exact⟨_,_,_,_,_,_,_,_,_,_,_,_,_,_,_,_,_,_,_,_,_,_,_,_,_,_,_,_,_,_,_,_,_,_,_,_,_,_,Q,by have:=eW.frame (w':=G.drew) (λ_ _ _=>rfl) (lR _);rw[Nat.mul_one] at this;exact this⟩) Q (by intro dn bQ;simp at bQ;repeat(first|(subst bQ;rfl)|(rcases bQ with bQ|bQ;(subst bQ;rfl)))) (oH bm.out.2.1) b5 (ad:=E (U G)) Q
     have d9:Hid (∀b5:TypeId,∃bR w',(Builtin.append_ #[26,26] b5 #[J fo (O fns') fc,J (some ⟨E (U G),0,I⟩) 1 1]).run Tryz.prog ((G.alloc (Ob (rB q mod j (o==1) (-1) (-1) bf (O ao) bh aC aA on aB av (O ay) ax aD (O aF) aE aI aJ (J aK aL aN) (J aO aP aQ) (J bH (O bK) bI) a0 a1 a2 a3 a4 a5 a6 a7) 129)).drew)=.ok bR w'/\∃aR aU bu,bR=J aR (O fns'+1) aU/\cz w' mb bP/\KT (λa9=>a9≠129) G w'/\KX (λb=>Mu' b\/b=E (U wr)+1) (E (U G)) G w'/\KT (λa9=>a9≠129/\a9≠66) G (w'.setCell ⟨mb,4,I⟩ (J aR (O fns'+1) aU))/\KX (λb=>Mu' b\/b=E (U wr)+1) (E (U G)) G (w'.setCell ⟨mb,4,I⟩ (J aR (O fns'+1) aU))/\FE w1 mb M trs au fns Xd Xi Xf Mu H (((ks.map bB).take s).sum+1) (s+1) (((ks.map (aG (h+4) w)).take s).sum+aY) (w'.setCell ⟨mb,4,I⟩ (J aR (O fns'+1) aU)) cm cn ds (fns'++[(rB q mod j (o==1) (-1) (-1) bf (O ao) bh aC aA on aB av (O ay) ax aD (O aF) aE aI aJ (J aK aL aN) (J aO aP aQ) (J bH (O bK) bI) a0 a1 a2 a3 a4 a5 a6 a7).toList]) aR aU ims' io ic bu co Xi' (Xf'+aY)):=λb5=>by
      obtain⟨bR,c8,e2,aR,aU,bu,e3,aW,bv,bw,bi,e4,e5,a',d'⟩:=d8 b5;refine⟨bR,c8,e2,aR,aU,bu,e3,aW,(KT.below cr).trans bv,(KX.al cr).trans bw,(KT.below cr).trans a',(KX.al cr).trans bi,?_⟩;have c9:O (fns'++[(rB q mod j (o==1) (-1) (-1) bf (O ao) bh aC aA on aB av (O ay) ax aD (O aF) aE aI aJ (J aK aL aN) (J aO aP aQ) (J bH (O bK) bI) a0 a1 a2 a3 a4 a5 a6 a7).toList])=O fns'+1:=sQ;have bA:=y.il;have cA:=y.fl;have eq:=y.fe Q;have du:=y.xi;have fY:=y.kx.size;have fZ:=bO.size;have f0:E (U G.drew)=E (U G):=rfl;refine⟨?_,y.dl,(A.out (bO.drew.trans (bi.mono (λ_ _ h=>h) bO.size))).1,λb z=>e4 b (.inl (y.m1 b z)),λb al z=>?_,λh=>absurd (y.hf h).symm h,lT y.hH eS,oM,by rw[c9];omega,λ_=>by rw[c9];omega,oM,vB y.xf⟩
      ·rw[c9];rw[cq] at d';exact d'
      ·rcases e5 b oM z with L|L
       ·exact y.m2 b al L
       ·omega
     clear d8 d7;clear bp bd d6 cp c6;refine wp_region_noPanic ?_;refine wp_region_held_drew (S:=(λe=>(Ce e (E (U wr)) (ae 8 j (O d:Int) o q (J (aS c) (O aa) r)))/\(Ce e (E (U wr)+1) (dy aZ ch ci cj ck cl))/\(Ce e (E (U bt)) (eO aC (J aA on aB) (J av (O ay) ax) aD (O aF) aE (vN aI) (vN aJ) (J aK aL aN) (J aO aP aQ)))/\e.cell? ⟨c,((O d:Int)+2).toNat*11,I⟩=some (vN a0)/\e.cell? ⟨c,((O d:Int)+2).toNat*11+1,I⟩=some (vN a1)/\e.cell? ⟨c,((O d:Int)+2).toNat*11+2,I⟩=some (vN a2)/\e.cell? ⟨c,((O d:Int)+2).toNat*11+3,I⟩=some (vN a3)/\e.cell? ⟨c,((O d:Int)+2).toNat*11+4,I⟩=some (.string a4)/\e.cell? ⟨c,((O d:Int)+2).toNat*11+5,I⟩=some (J a5 a6 a7)/\e.cell? ⟨c,((O d:Int)+2).toNat*11+6,I⟩=some (vN 0)/\e.cell? ⟨c,((O d:Int)+2).toNat*11+7,I⟩=some (vN 0)/\e.cell? ⟨c,((O d:Int)+2).toNat*11+8,I⟩=some aH/\e.cell? ⟨c,((O d:Int)+2).toNat*11+9,I⟩=some aH/\e.cell? ⟨c,((O d:Int)+2).toNat*11+10,I⟩=some aH)) kQ ?_ (λhHeld=>?_)
     ·(try dsimp only)
      (first|assumption|exact KB.out ((Below.refl _ _).drew)|exact KB.out ((al1 _ _).1.drew)|exact KS10|exact KS11)
     refine aM 0 ?_;refine aM 1 ?_;refine aM 2 ?_;refine aM 3 ?_;refine aM 4 ?_;refine aM 6 ?_;refine aM 7 ?_;refine aM 8 ?_;refine aM 9 ?_;refine aM 10 ?_;refine aM 11 ?_;refine aM 12 ?_;refine aM 13 ?_;refine aM 14 ?_;refine aM 15 ?_;refine aM 16 ?_;refine aM 17 ?_;refine aM 18 ?_;refine aM 19 ?_;refine aM 20 ?_;refine aM 21 ?_;refine aM 22 ?_;refine aM 23 ?_;refine aM 24 ?_;refine aM 25 ?_;refine aM 26 ?_;refine aM 27 ?_;refine pM 5 28 (λK hK=>?_) (λK hK=>?_)
     ·go_simp;refine dH hK ?_;clear hK K hHeld;intro hHeld;refine eA 28 (λK hK=>?_);go_simp;refine dH hK ?_;clear hK K hHeld;intro hHeld;refine eA 29 (λK hK=>?_)
      (refine bg 26 (v:=J fo (O fns') fc) (xv:=J (aS (E (U G))) 1 1) rQ rQ rQ rQ (d9.out _) ?_;rintro bR c8 ⟨aR,aU,bu,rfl,aW,bv,bw,a',bi,c'⟩;have KS10:=b4.out (bv.mono (λa9 da=>da.1)) bw;have KS11:=b4.out a' bi;have db:=aW.cell;have bq:=aW.fz;have dc:=aW.lt)
      refine dH hK ?_;clear hK K hHeld;intro hHeld;refine aM 30 ?_;refine aM 31 ?_;refine aM 32 ?_;refine eA 33 (λK hK=>?_);go_simp;refine dH hK ?_;clear hK K hHeld;intro hHeld;refine wpAnyH_done kQ ?_ _;refine NoPanic.normal ?_;have b6:=aw a' c4 dC;have e6:=(gE b6).1;have e7:=λP=>cell_of_row _ _ P _ 48 (0,0) b6;clear bi a' KS10 KS11 db bq dc aW bv bw;go_wp2_with fail;go_roundg (O ks - (s+1))
      case measure=>rw[b'.out];omega
      case rel=>
       refine⟨s+1,_,cm,cn,ds,fns'++[(rB q mod j (o==1) (-1) (-1) bf (O ao) bh aC aA on aB av (O ay) ax aD (O aF) aE aI aJ (J aK aL aN) (J aO aP aQ) (J bH (O bK) bI) a0 a1 a2 a3 a4 a5 a6 a7).toList],aR,aU,ims',io,ic,bu,co,Xi',Xf'+aY,Q,by go_num,Q,ba,?_⟩;rw[aV ar.out.1,aV ar.out.2,show bB (ae 8 j (O d:Int) o q (J (aS c) (O aa) r)).toList=1 by rfl];exact c'
     ·go_simp;refine dH hK ?_;clear hK K hHeld;intro hHeld;refine eA 5 (λK hK=>?_);go_simp;refine dH hK ?_;clear hK K hHeld;intro hHeld;refine eA 29 (λK hK=>?_)
      (refine bg 26 (v:=J fo (O fns') fc) (xv:=J (aS (E (U G))) 1 1) rQ rQ rQ rQ (d9.out _) ?_;rintro bR c8 ⟨aR,aU,bu,rfl,aW,bv,bw,a',bi,c'⟩;have KS10:=b4.out (bv.mono (λa9 da=>da.1)) bw;have KS11:=b4.out a' bi;have db:=aW.cell;have bq:=aW.fz;have dc:=aW.lt)
      refine dH hK ?_;clear hK K hHeld;intro hHeld;refine aM 30 ?_;refine aM 31 ?_;refine aM 32 ?_;refine eA 33 (λK hK=>?_);go_simp;refine dH hK ?_;clear hK K hHeld;intro hHeld;refine wpAnyH_done kQ ?_ _;refine NoPanic.normal ?_;have b6:=aw a' c4 dC;have e6:=(gE b6).1;have e7:=λP=>cell_of_row _ _ P _ 48 (0,0) b6;clear bi a' KS10 KS11 db bq dc aW bv bw;go_wp2_with fail;go_roundg (O ks - (s+1))
      case measure=>rw[b'.out];omega
      case rel=>
       refine⟨s+1,_,cm,cn,ds,fns'++[(rB q mod j (o==1) (-1) (-1) bf (O ao) bh aC aA on aB av (O ay) ax aD (O aF) aE aI aJ (J aK aL aN) (J aO aP aQ) (J bH (O bK) bI) a0 a1 a2 a3 a4 a5 a6 a7).toList],aR,aU,ims',io,ic,bu,co,Xi',Xf'+aY,Q,by go_num,Q,ba,?_⟩;rw[aV ar.out.1,aV ar.out.2,show bB (ae 8 j (O d:Int) o q (J (aS c) (O aa) r)).toList=1 by rfl];exact c'
    ·have f1:(T==8)=false:=sU cC;by_cases dd:T=7
     ·subst dd;obtain⟨Z,rfl,bY,bZ,b0,ea,-,ca,-,-⟩:=(bV wr (ap.out y.kx).1).2.1.kids;obtain⟨-,f2,f3,b1,-,-⟩:=b0.impl Q;have cE:2<=O Z:=by have:=congrArg List.length b1;simp at this;omega
      have f4:=bY.len.2
      have f5:O Z<=aG (h+4) w (ae 7 j u o q (J B (O Z) r)).toList:=by
       have bA:aG (h+4) wr (ae 7 j u o q (J B (O Z) r)).toList=aG (h+4) w (ae 7 j u o q (J B (O Z) r)).toList:=(bV wr (ap.out y.kx).1).2.2;have cA:=kT (l:=Z.map (aG (h+3) wr)) (λx ac=>by obtain⟨e8,e9,rfl⟩:=List.mem_map.1 ac;exact mF (bZ e8 e9));rw[List.length_map] at cA;have du:aG (h+4) wr (ae 7 j u o q (J B (O Z) r)).toList=1+(Z.map (aG (h+3) wr)).sum:=ea;omega
      have cI:B0<=E (U wr):=oH (ap.out y.kx).1.size
      have e':Hid (Calls Tryz.prog 50 #[.pointer (some ⟨mb,0,I⟩),.int .i64 mod,.agg (ae 7 j u o q (J B (O Z) r)),.int .i64 bT] (wr.alloc (Ob (ae 7 j u o q (J B (O Z) r)) 48)) (gF (wr.alloc (Ob (ae 7 j u o q (J B (O Z) r)) 48)) mb ({M with ds:=ds,fv:=J fo (O fns') fc,iv:=J io (O ims') ic}.bu 0 a) trs ims' fns' Xd Xi' Xf' Mu' H' (O Z) (aG (h+4) w (ae 7 j u o q (J B (O Z) r)).toList))):=by
       have de:=bV _ (ap.out aX.kx).1
       have eb:=wE (h:=h) aX.s (fo:=fo) (fc:=fc) Q (ivo:=io) (ivc:=ic) Q (mod:=mod) dh (B0:=B0) (λb z=>by
        by_cases cK:b<E (U w1)
        ·exact b9.out.2.2.1 b (aX.m2 b cK z)
        ·omega) (by simp;omega) de.2.1 (by rw[de.2.2];exact bm.out.1) (oH bm.out.2.1) bm.out.2.2 bT
       rw[de.2.2] at eb;exact eb
      have df:=(al1 wr (Ob (ae 7 j u o q (J B (O Z) r)) 48)).2;clear bY bZ b0 ea ca b1;have bp:=λP=>cell_of_row (wr.alloc (Ob (ae 7 j u o q (J B (O Z) r)) 48)) _ P _ 48 (0,0) df;have bd:E (U wr)<E (U (wr.alloc (Ob (ae 7 j u o q (J B (O Z) r)) 48))):=(gE df).1;have fa:Hid (E (U wr)<E (U (wr.alloc (Ob (ae 7 j u o q (J B (O Z) r)) 48)))):=bd;clear bp bd;go_upto_region 17 with(first|(go_at_call 30;refine(bM aX.s.mk').mono ?_;rintro cM cN ⟨rfl,aj⟩;replace aj:=aj.symm;subst aj)|(go_at_call 50;refine e'.out.mono ?_;rintro f6 dg ec;have fb:=ec.kx;obtain⟨fd,fe,ff,fg,fh,fi,fj,fk,fl,fm,fn,fp,fq,rfl,fr⟩:=aX.impl ec rfl cE bm.out.1))
      have ed:dg.heap[E (U wr)]? =some (Ob (ae 7 j u o q (J B (O Z) r)) 48 (0,0)):=(fb.block _ fa.out (λL=>oH (y.s.mlt _ L))).trans df;have f7:=λP=>cell_of_row dg _ P _ 48 (0,0) ed;have f8:E (U wr)<E (U dg):=(gE ed).1;go_wp2_with fail;go_roundg (O ks - (s+1))
      case measure=>rw[b'.out];omega
      case rel=>
       refine⟨s+1,_,fd,fe,ff,fg,fh,fi,fj,fk,fl,fm,fn,fp,fq,Q,by go_num,Q,ba,?_⟩;rw[aV ar.out.1,aV ar.out.2,show bB (ae 7 j u o q (J B (O Z) r)).toList=O Z - 2 by rfl];exact fr
     ·have f9:(T==7)=false:=sU dd;go_wp2_with (go_at_call 30;refine(bM aX.s.mk').mono ?_;rintro cM cN ⟨rfl,aj⟩;replace aj:=aj.symm;subst aj)
      go_roundg (O ks - (s+1))
      case measure=>rw[b'.out];omega
      case rel=>
       refine⟨s+1,bT,0,a,ds,fns',fo,fc,ims',io,ic,Mu',H',Xi',Xf',Q,by go_num,Q,ba,?_⟩;rw[aV ar.out.1,aV ar.out.2,show bB (ae T j u o q (J B X r)).toList=0 by show(if T=8 then 1 else if T=7 then _ else 0)=0;rw[if_neg cC,if_neg dd],Nat.add_zero];exact aX.skip _
   ·have f':(k==0)=false:=sU cB;go_wp2_with (go_at_call 30;refine(bM aX.s.mk').mono ?_;rintro cM cN ⟨rfl,aj⟩;replace aj:=aj.symm;subst aj)
    go_ret;exact⟨_,_,k,a,ds,fns',fo,fc,ims',io,ic,Mu',H',Xi',Xf',Q,bL _ _,λab=>absurd ab cB,aX.base dm.out dq (bL _ _)⟩
  ·have en:¬(s:Int)<(O ks:Int):=oM;have fs:s=O ks:=oM
   have ft:Hid (((ks.map bB).take s).sum=(ks.map bB).sum):=by
    show _=_;rw[List.take_of_length_le (by rw[List.length_map];omega)]
   clear fs;go_wp2_with fail;go_ret;exact⟨_,_,k,a,ds,fns',fo,fc,ims',io,ic,Mu',H',Xi',Xf',Q,bL _ _,λ_=>ft.out,y.base dm.out dq (bL _ _)⟩
end
end Go.Proofs.YtdghkacbpebcoaaGreat
