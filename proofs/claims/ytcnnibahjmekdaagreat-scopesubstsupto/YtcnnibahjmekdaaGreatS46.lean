import Derived.Test.YtcnnibahjmekdaaGreatS43
import Derived.Test.YtcnnibahjmekdaaGreatS45
namespace Go.Proofs.YtcnnibahjmekdaaGreat
open Go.RowKit
open Value renaming slice→J
open List renaming length→O
open Option renaming none→I
open World renaming heap→U
open _root_.Array renaming size→E
open Obj renaming cells→Ob
set_option linter.all false
set_option maxRecDepth 100000
set_option maxHeartbeats 0
section
variable{M:MK} {H Xd Xf Xi fc ivc kl mb:Nat} {Mu:Nat->Prop} {fo ivo:OA} {fns ims trs:VV} {w:World}
def gF (w:World) (mb:Nat) (M:MK) (trs ims fns:VV) (Xd Xi Xf:Nat) (Mu:Nat->Prop) (H kl N:Nat) (e:Ending) (w':World):Prop:=
 ∃(k a:Int) (ds:List Dd) (fns':VV) (fo:OA) (fc:Nat) (ims':VV) (io:OA) (ic:Nat) (Mu':Nat->Prop) (H' Xi' Xf':Nat),e=.returned (.tuple #[])/\O ds=O M.ds/\MS w' mb ({M with ds:=ds,fv:=J fo (O fns') fc,iv:=J io (O ims') ic}.bt k a) trs ims' fns' Xd Xi' Xf' Mu' H'/\KX Mu (E (U w)) w w'/\(∀b,Mu b->Mu' b)/\(∀b,b<E (U w)->Mu' b->Mu b)/\(M.fk≠0->k=M.fk)/\H<=H'/\O ims'<=O ims+1/\O fns'+2<=O fns+kl/\(k=0->O fns'+2=O fns+kl)/\Xi'<=Xi+N/\Xf'<=Xf+N*N
theorem IE.stop {e wr:World} {c:Nat->Prop} {d f i:Nat} {k a:Int} {K:CK} {how next one fk fa:Int} (q:IE e mb f M trs ims fns Xd Xi Xf c H wr k a K how next one fk fa) (j:KX Mu (E (U w)) w wr) (l:∀b,Mu b->c b) (m:∀b,b<E (U w)->c b->Mu b) (n:M.fv=J fo (O fns) fc) (o:M.iv=J ivo (O ims) ivc) (p:d<=H) (t:2<=kl) (r:k≠0):gF w mb M trs ims fns Xd Xi Xf Mu d kl i (.returned (.tuple #[])) wr:=
 ⟨k,a,M.ds,fns,fo,fc,ims,ivo,ivc,c,H,Xi,Xf,Q,Q,by rw[<-n,<-o];exact q.s,j,l,m,q.hf,p,oM,oM,λs=>absurd s r,oM,oM⟩
theorem wW {h:Nat} (hS:MS w mb M trs ims fns Xd Xi Xf Mu H) (fk:M.fv=J fo (O fns) fc) (cS:M.iv=J ivo (O ims) ivc) {mod:Nat} (dW:mod<O M.ms) {B0:Nat} (dX:∀b,Mu b->B0<=b) (dY:B0<=E (U w)) {pos aY m:Int} {name:ByteArray} {ko:OA} {kc:Nat} (cw:isNode (λb=>b<B0) True (h+4) w (ae 7 pos aY m name (J ko kl kc)).toList) (cx:aG (h+4) w (ae 7 pos aY m name (J ko kl kc)).toList<=96100) (i8:O fns+kl<=199999) (i9:O ims<=199999) (et:Int):
 Calls Tryz.prog 56 #[.pointer (some ⟨mb,0,I⟩),.int .i64 mod,.agg (ae 7 pos aY m name (J ko kl kc)),.int .i64 et] w (gF w mb M trs ims fns Xd Xi Xf Mu H kl (aG (h+4) w (ae 7 pos aY m name (J ko kl kc)).toList)):=by
 have eu:B0<=mb:=dX mb hS.dT;obtain⟨P,rfl,cy,dZ,bI,ev,hk,fl,i',-⟩:=cw.kids;obtain⟨fm,hl,ja,fn,cT,fp⟩:=bI.impl Q;have fq:=fm.nt;have jb:=cy.len.2;obtain⟨fr,jc,cz,fs,ew⟩:=List.map_eq_cons_iff.1 fn;obtain⟨ft,Z,hm,fu,fv⟩:=List.map_eq_cons_iff.1 ew;subst hm;have d0:P[0]? =some fr:=by rw[cz];rfl
 have d1:P[1]? =some ft:=by rw[cz];rfl
 have fw:O P=O Z+2:=by rw[cz];rfl
 obtain⟨bg,cU⟩:∃bg,bg=aG (h+4) w (ae 7 pos aY m name (J ko (O P) kc)).toList:=⟨_,Q⟩;rw[<-cU] at cx⊢;obtain⟨g,hn⟩:=fl 0 oM;obtain rfl:ko=some ⟨g,0,I⟩:=hn;have b0:=dZ fr (mG d0);have cA:=dZ ft (mG d1);obtain⟨fx,cB,cb,cC,cD,cc,ho,cE,rfl,-⟩:=isNode.cells b0;obtain⟨bk,br,bl,bs,bt,bu,bm,bv,rfl,-⟩:=isNode.cells cA
 have hp:fx=9:=by
  have e:fL fx cb ho=9:=fs;unfold fL at e;split at e
  ·exact absurd e dC
  ·split at e
   ·exact absurd e dC
   ·exact e
 subst hp;have hr:cH bk:=mf (n:=bl) (l:=bm) (by have e:fL bk bl bm=hl:=fu;rw[e];exact cT);obtain⟨b1,rfl,ex⟩:=vP b0;have bJ:Hid (O P=O Z+2):=fw;obtain⟨cG,cV,b2⟩:=eI w (Ob (ae 7 pos aY m name (J (aS g) (O P) kc)) 46) (Ob (dL ({mb:=mb,mod:=mod,aw:=I,cO:=0,aZ:=[],cj:=I,tcp:=0,bg:=[],bR:=false,sk:=0,sn:=0,iK:=I,iL:=0,iM:=0,iN:=I,iO:=0,iP:=0}:CK) 0 0 0 0 0) 126);obtain⟨aa,d2⟩:∃aa,aa=((w.alloc (Ob (ae 7 pos aY m name (J (aS g) (O P) kc)) 46)).alloc (Ob (dL ({mb:=mb,mod:=mod,aw:=I,cO:=0,aZ:=[],cj:=I,tcp:=0,bg:=[],bR:=false,sk:=0,sn:=0,iK:=I,iL:=0,iM:=0,iN:=I,iO:=0,iP:=0}:CK) 0 0 0 0 0) 126)):=⟨_,Q⟩;have fy:E (U aa)=E (U w)+2:=by rw[d2];simp
 rw[<-d2] at cG cV b2;have cW:=hS.mlt;have d3:IE aa mb (E (U w)+1) M trs ims fns Xd Xi Xf (λb=>Mu b\/b=E (U w)+1) H aa M.fk M.fa ({mb:=mb,mod:=mod,aw:=I,cO:=0,aZ:=[],cj:=I,tcp:=0,bg:=[],bR:=false,sk:=0,sn:=0,iK:=I,iL:=0,iM:=0,iN:=I,iO:=0,iP:=0}:CK) 0 0 0 0 0:=⟨hS.grow cG (λb c=>.inl c) (λb c=>by rcases c with c|c;(have:=cW b c;omega);omega) (λb p c=>by rcases c with c|c;exact c;omega),KX.refl _ _ _,b2,.inr Q,λ_=>rfl⟩
 have k:Hid (∀{a:World},KX (λb=>Mu b\/b=E (U w)+1) (E (U aa)) aa a->KX Mu (E (U w)) w a/\al (λb=>b<B0) w a/\a.heap[E (U w)]? =some (Ob (ae 7 pos aY m name (J (aS g) (O P) kc)) 46 (0,0))):=λ{a} q=>by
  have d4:KX Mu (E (U w)) w a:=(KX.aq cG).trans (q.mono (λb p e=>by rcases e with e|e;exact e;omega) oM);refine⟨d4,λb c p=>d4.block b p (λC=>oH (dX b C)),(q.block _ oM (λC=>?_)).trans cV⟩;rcases C with C|C
  ·have:=cW _ C;omega
  ·omega
 have R:Hid (∀{a:World},al (λb=>b<B0) w a->(∀aP,aP<11->a.cell? ⟨g,aP,I⟩=(ae 9 cB cb cC cD (J cc (O b1) cE)).toList[aP]?)/\(∀aP,aP<11->a.cell? ⟨g,11+aP,I⟩=(ae bk br bl bs bt (J bu bm bv)).toList[aP]?)/\isNode (λb=>b<B0) True (h+3) a (ae 9 cB cb cC cD (J cc (O b1) cE)).toList/\isNode (λb=>b<B0) True (h+3) a (ae bk br bl bs bt (J bu bm bv)).toList/\GK B0 a cc b1):=λ{a} a'=>by
  obtain⟨b3,j,e,fz,cI⟩:=(cy.frame a' dY).nth d0;obtain⟨rfl,rfl⟩:b3=g/\j=0:=sU e.symm;obtain⟨hs,j,e,-,ht⟩:=(cy.frame a' dY).nth d1;obtain⟨rfl,rfl⟩:hs=b3/\j=0:=sU e.symm;refine⟨λaP cX=>?_,λaP cX=>?_,isNode.frame a' _ _ b0,isNode.frame a' _ _ cA,ex.frame a' dY⟩
  ·have:=cI aP cX;simpa using this
  ·have:=ht aP cX;simpa using this
 have hu:Hid (∀{a:World},al (λb=>b<B0) w a->aG (h+3) a (ae bk br bl bs bt (J bu bm bv)).toList<=96100):=λ{a} a'=>by
  rw[aQ a' _ _ cA];have aR:=vr (List.mem_map_of_mem (f:=aG (h+3) w) (mG d1));have b4:=ev;have cJ:=lT (Nat.le_of_eq (b4.symm.trans cU.symm)) cx;omega
 obtain⟨aM,d5⟩:∃aM,aM=aG (h+3) w (ae bk br bl bs bt (J bu bm bv)).toList:=⟨_,Q⟩
 have cK:Hid ((∀{a:World},al (λb=>b<B0) w a->aG (h+3) a (ae bk br bl bs bt (J bu bm bv)).toList=aM)/\1<=aM/\∀i,((Z.map (aG (h+3) w)).take i).sum+aM<=bg):=⟨λ{a} a'=>by rw[aQ a' _ _ cA,d5],by
  obtain⟨hv,-,-,-,-,ce,-⟩:=cA.kids;have cf:aG (h+3) w (ae bk br bl bs bt (J bu bm bv)).toList=1+(hv.map (aG (h+2) w)).sum:=ce;rw[d5,cf];omega,λi=>by
  have aR:=bM (Z.map (aG (h+3) w)) i;have b4:bg=1+(P.map (aG (h+3) w)).sum:=cU.trans ev
  have cJ:(P.map (aG (h+3) w)).sum=aG (h+3) w (ae 9 cB cb cC cD (J cc (O b1) cE)).toList+(aG (h+3) w (ae bk br bl bs bt (J bu bm bv)).toList+(Z.map (aG (h+3) w)).sum):=by
   rw[cz,List.map_cons,List.map_cons,List.sum_cons,List.sum_cons]
  rw[d5];omega⟩
 have hw:aM<=96100:=lT (Nat.le_add_left _ _) (lT (cK.out.2.2 0) cx)
 have hx:Hid (∀i,i<O Z->∃(ak bh ao:Int) (ap:ByteArray) (ab:OA) (bi ac:Nat),(Z.map (aG (h+3) w))[i]? =some (aG (h+3) w (ae 8 ak bh ao ap (J ab bi ac)).toList)/\(bi:Int)=bh+3/\∀a:World,al (λb=>b<B0) w a->(∀aP,aP<11->a.cell? ⟨g,22+i*11+aP,I⟩=(ae 8 ak bh ao ap (J ab bi ac)).toList[aP]?)/\isNode (λb=>b<B0) True (h+3) a (ae 8 ak bh ao ap (J ab bi ac)).toList/\aG (h+3) a (ae 8 ak bh ao ap (J ab bi ac)).toList=aG (h+3) w (ae 8 ak bh ao ap (J ab bi ac)).toList):=λi d6=>by
  obtain⟨ar,aE⟩:∃ar,Z[i]? =some ar:=⟨_,gG d6⟩;have cT:P[i+2]? =some ar:=by rw[cz];exact aE
  have ey:=dZ ar (mG cT);obtain⟨fA,ak,bh,ao,ap,ab,bi,ac,rfl,-⟩:=isNode.cells ey;have p:fL fA bh bi=108:=fp _ (by rw[<-fv];exact List.mem_map_of_mem (f:=aA) (mG aE))
  obtain⟨rfl,ez⟩:fA=8/\(bi:Int)=bh+3:=by
   unfold fL at p;split at p
   ·assumption
   ·split at p
    ·exact absurd p dC
    ·exact absurd p (by assumption)
  refine⟨ak,bh,ao,ap,ab,bi,ac,by rw[List.getElem?_map,aE];rfl,ez,λa a'=>⟨λaP cX=>?_,isNode.frame a' _ _ ey,aQ a' _ _ ey _⟩⟩;obtain⟨b3,j,e,-,cI⟩:=(cy.frame a' dY).nth cT;obtain⟨rfl,rfl⟩:b3=g/\j=0:=sU e.symm;have:=cI aP cX;rw[show 0+(i+2)*11+aP=22+i*11+aP by omega] at this;exact this
 have jd:g<B0:=by
  obtain⟨b3,j,e,fz,-⟩:=cy.nth d0;obtain⟨rfl,rfl⟩:b3=g/\j=0:=sU e.symm;exact fz
 have bK:Hid (MS w mb M trs ims fns Xd Xi Xf Mu H/\(∀b,Mu b->B0<=b)/\(∀b,Mu b->b<E (U w))/\NT name/\isNode (λb=>b<B0) True (h+4) w (ae 7 pos aY m name (J (some ⟨g,0,I⟩) (O P) kc)).toList/\bg=aG (h+4) w (ae 7 pos aY m name (J (some ⟨g,0,I⟩) (O P) kc)).toList):=⟨hS,dX,cW,fq hk,cw,cU⟩;have je:=ex.len;have jf:(1:Int)<(O P:Int):=oM;have jg:(0:Int)<(O P:Int):=oM;have fB:mb≠E (U w)+1:=oH (cW mb hS.dT);clear hS dX d5 cy dZ bI ev fl fn ew fs fu fp fv fm fq cw cU b0 cA ex cz d0 d1 cT cG cV b2 cW fw;have aN:=λj=>cell_of_row aa _ j _ 46 (0,0) (k.out (KX.refl _ _ _)).2.2;have ay:E (U w)<E (U aa):=oM;have cY:aa.cell? ⟨g,0,I⟩=some (vN 9):=(R.out (k.out (KX.refl _ _ _)).2.1).1 0 dC;have ce:aa.cell? ⟨g,1,I⟩=some (vN cB):=(R.out (k.out (KX.refl _ _ _)).2.1).1 1 dC;have cf:aa.cell? ⟨g,2,I⟩=some (vN cb):=(R.out (k.out (KX.refl _ _ _)).2.1).1 2 dC;have cZ:aa.cell? ⟨g,3,I⟩=some (vN cC):=(R.out (k.out (KX.refl _ _ _)).2.1).1 3 dC;have c0:aa.cell? ⟨g,4,I⟩=some (.string cD):=(R.out (k.out (KX.refl _ _ _)).2.1).1 4 dC;have b5:aa.cell? ⟨g,5,I⟩=some (J cc (O b1) cE):=(R.out (k.out (KX.refl _ _ _)).2.1).1 5 dC;have bx:aa.cell? ⟨g,6,I⟩=some (vN 0):=(R.out (k.out (KX.refl _ _ _)).2.1).1 6 dC;have aZ:aa.cell? ⟨g,7,I⟩=some (vN 0):=(R.out (k.out (KX.refl _ _ _)).2.1).1 7 dC;have c1:aa.cell? ⟨g,8,I⟩=some aF:=(R.out (k.out (KX.refl _ _ _)).2.1).1 8 dC;have cL:aa.cell? ⟨g,9,I⟩=some aF:=(R.out (k.out (KX.refl _ _ _)).2.1).1 9 dC;have cM:aa.cell? ⟨g,10,I⟩=some aF:=(R.out (k.out (KX.refl _ _ _)).2.1).1 10 dC;have bI:g<E (U aa):=oM;go_enter Tryz.func56,Tryz.ntmps56
 go_upto_region 2 with fail
 generalize hq:World.alloc (World.alloc w _) _=hy;obtain rfl:aa=hy:=d2.trans hq;clear d2 hq;go_upto_region 3 with(go_at_call 49;refine(pH (h:=h+2) (K:=({mb:=mb,mod:=mod,aw:=I,cO:=0,aZ:=[],cj:=I,tcp:=0,bg:=[],bR:=false,sk:=0,sn:=0,iK:=I,iL:=0,iM:=0,iN:=I,iO:=0,iP:=0}:CK)) d3.s.mk' d3.cv fB oM eu (R.out (k.out d3.kx).2.1).2.2.1).mono ?_;rintro e aw ⟨cg,ch,a5,ci,cj,a6,fC,b2,rfl,fD,fE,fF,eA,eB,eC,-,fG⟩)
 have az:=d3.oe eA fE fF fG;have jh:=eA.size;have eD:O a5<=30000:=oM;have eE:O a6<=30000:=oM
 have eF:Hid (∀{a:World},KX (λb=>Mu b\/b=E (U w)+1) (E (U aw)) aw a->a.ownsRow 0 9 1 (J cg (O a5) ch) (O a5) (cd a5)/\a.ownsRow 0 9 1 (J ci (O a6) cj) (O a6) (cd a6)):=λ{a} q=>by
  have c2:∀(v:Value) (n:Nat) (F:List Value),aw.ownsRow (E (U aa)) 9 1 v n F->a.ownsRow 0 9 1 v n F:=λv n F c3=>ag (gy c3) (λb c p=>q.block b p (λC=>by
   have aR:=(c3.lt b c).1;rcases C with C|C
   ·have:=bK.out.2.2.1 b C;omega
   ·omega))
  exact⟨c2 _ _ _ eB,c2 _ _ _ eC⟩
 have fH:Hid ((∀b,(Value.slice cg (O a5) ch).ownBlock=some b->E (U aa)<=b/\b<E (U aw))/\∀b,(Value.slice ci (O a6) cj).ownBlock=some b->E (U aa)<=b/\b<E (U aw)):=⟨λb c=>eB.lt b c,λb c=>eC.lt b c⟩;have ji:Hid (O a5+O a6=O b1):=fD;obtain⟨a0,c4⟩:∃a0,a0=({mb:=mb,mod:=mod,aw:=I,cO:=0,aZ:=[],cj:=I,tcp:=0,bg:=[],bR:=false,sk:=0,sn:=0,iK:=I,iL:=0,iM:=0,iN:=I,iO:=0,iP:=0}:CK).nm cg ch a5 ci cj a6:=⟨_,Q⟩;have ck:=dz (S:=λ_=>False) (D:=O M.ds) (w:=aw) (kind:=0) (n:=0) ⟨λe=>absurd e dC,dC,dC⟩
 have fJ:Cx aw (E (U w)+1) a0 (M.bt fC b2) (O trs) (λ_=>False) 1 1:=by
  rw[c4];exact⟨(eF.out (KX.refl _ _ _)).1,eD,(eF.out (KX.refl _ _ _)).2,eE,az.s.pi,dW,ck.1,λ_ aE=>aE.elim,ck.2,lR _⟩
 have fK:Hid (Calls Tryz.prog 55 #[.pointer (aS mb),.agg (ae 9 cB cb cC cD (J cc (O b1) cE)),.pointer (aS (E (U w)+1)),.bool false] aw (nf aw mb (E (U w)+1) (M.bt fC b2) a0 0)):=oC fJ (by rw[c4];exact az.cv) az.s.mk' fB (by rw[c4]) oM eu (λ_ aE=>aE.elim) (R.out (k.out az.kx).2.1).2.2.2.2 false;clear fD aN ay cY ce cf cZ c0 b5 bx aZ c1 cL cM bI fJ ck fE fF fG eA eB eC;have aN:=λj=>cell_of_row aw _ j _ 46 (0,0) (k.out az.kx).2.2;have ay:E (U w)<E (U aw):=oM;have cY:aw.cell? ⟨g,0,I⟩=some (vN 9):=(R.out (k.out az.kx).2.1).1 0 dC;have ce:aw.cell? ⟨g,1,I⟩=some (vN cB):=(R.out (k.out az.kx).2.1).1 1 dC;have cf:aw.cell? ⟨g,2,I⟩=some (vN cb):=(R.out (k.out az.kx).2.1).1 2 dC;have cZ:aw.cell? ⟨g,3,I⟩=some (vN cC):=(R.out (k.out az.kx).2.1).1 3 dC;have c0:aw.cell? ⟨g,4,I⟩=some (.string cD):=(R.out (k.out az.kx).2.1).1 4 dC;have b5:aw.cell? ⟨g,5,I⟩=some (J cc (O b1) cE):=(R.out (k.out az.kx).2.1).1 5 dC;have bx:aw.cell? ⟨g,6,I⟩=some (vN 0):=(R.out (k.out az.kx).2.1).1 6 dC;have aZ:aw.cell? ⟨g,7,I⟩=some (vN 0):=(R.out (k.out az.kx).2.1).1 7 dC;have c1:aw.cell? ⟨g,8,I⟩=some aF:=(R.out (k.out az.kx).2.1).1 8 dC;have cL:aw.cell? ⟨g,9,I⟩=some aF:=(R.out (k.out az.kx).2.1).1 9 dC;have cM:aw.cell? ⟨g,10,I⟩=some aF:=(R.out (k.out az.kx).2.1).1 10 dC;have bI:g<E (U aw):=oM;go_upto_region 4 with(go_at_call 55;refine fK.out.mono ?_;rintro e aB ⟨jj,hz,hA,hB,d7,c5,W,X,G,jk,on,jl,rfl,fM,fN,fO,d8,fP,hC,fQ⟩)
 have bL:=az.oe d8 fM fN fO;have hD:=d8.size;have hE:Hid (KX (λb=>Mu b\/b=E (U w)+1) (E (U aw)) aw aB):=d8.mono (λb _ e=>by rcases e with rfl|rfl;exact .inr rfl;exact .inl bK.out.1.dT) (lR _)
 have fR:Hid (∀{a:World},KX (λb=>Mu b\/b=E (U w)+1) (E (U aB)) aB a->ro a (λb=>¬(Mu b\/b=E (U w)+1)) 2 (J W (O G) X) (O G) G.flatten):=λ{a} q=>(fP.weaken (λb c _ C=>by
  rcases C with C|C
  ·have:=bK.out.2.2.1 b C;omega
  ·omega)).frame (λb c p=>q.block b p c) q.size
 clear aN ay cY ce cf cZ c0 b5 bx aZ c1 cL cM bI fM fN fO d8 fP fK;have cl:Hid (∀{a:World} {eG:Nat} {av aV:Int} {K:CK} {how next one fS fU:Int},IE aa mb (E (U w)+1) M trs ims fns Xd Xi Xf (λb=>Mu b\/b=E (U w)+1) eG a av aV K how next one fS fU->H<=eG->av≠0->gF w mb M trs ims fns Xd Xi Xf Mu H (O P) bg (.returned (.tuple #[])) a):=λ{a eG av aV K how next one fS fU} A hG eH=>A.stop (k.out A.kx).1 (λb c=>.inl c) (λb p c=>by rcases c with c|c;exact c;omega) fk cS hG (oH bJ.out) eH;have aN:=λj=>cell_of_row aB _ j _ 46 (0,0) (k.out bL.kx).2.2;have ay:E (U w)<E (U aB):=oM;go_cut [11,12,13] (λd9 bz b6 aC=>∃(bA:Nat) (eK:ByteArray) (e:Int) (d':Nm),d9=.pointer (aS bA)/\bz=.string eK/\b6=vN e/\Below (E (U aB)) aB aC/\bw aC bA (dR d')/\E (U aB)<=bA/\NQ (O M.ds) (O trs) d')
 case first=>
  clear aN ay;have c6:Hid (∀{a:World},Below (E (U aB)) aB a->Below (E (U aB)) aB a/\(Ce a mb (jO (M.bt d7 c5)))/\(Ce a (E (U w)) (ae 7 pos aY m name (J (aS g) (O P) kc)))):=λ{a} c=>⟨c,(bL.s.mk'.below c).cell,λj=>cell_of_row a _ j _ 46 (0,0) ((c.block _ oM).trans (k.out bL.kx).2.2)⟩
  go_region_held3 (λa=>Below (E (U aB)) aB a/\(Ce a mb (jO (M.bt d7 c5)))/\(Ce a (E (U w)) (ae 7 pos aY m name (J (aS g) (O P) kc))))
   (first|assumption|exact c6.out ((Below.refl _ _).drew)|exact c6.out ((al1 _ _).1.drew)|exact c6.out b7|exact c6.out (b7.alloc b7.size _)|exact c6.out (Below.cQ b7 sQ _ _ _ _))
   (first
    |(go_at_call 75;have c7:=(‹Below (E (U aB)) aB _/\_›).1;refine(pI (D:=O M.ds) (T:=O trs) bL.s.pi.bB.1 bL.s.pi.bB.2.2 (bL.s.pi.cK.below c7) bL.s.pi.q _ _ _ _ _ _ (i:=mod) dW _ bK.out.2.2.2.1).mono ?_;rintro e fV ⟨fW,fX,b5,rfl,fY,fZ⟩;have b7:=c7.trans (fZ.mono c7.size);have hH:=b7.size;first|(have ea:bw fV (E (U aB)) (dR gJ):=(fZ.block (E (U aB)) sQ).trans (al1 aB _).2;have jm:=ea.cell;have jn:=ea.fz;have jo:=ea.lt)|skip))
  all_goals
   go_wp2_with fail;go_meet
   first
    |exact⟨E (U aB),fX,b5,fW,Q,Q,Q,Below.cQ b7 sQ _ _ _ _,bw.bQ ea _ _ _ _,lR _,fY⟩
    |exact⟨E (U fV),fX,b5,fW,Q,Q,Q,b7.alloc b7.size _,(al1 _ _).2,hH,fY⟩
 case rest=>
  clear aN ay;obtain⟨bA,eK,e,d',rfl,rfl,rfl,c8,eb,ec,f0⟩:=hcut;obtain⟨c9,f1,r,c'⟩:=d';have aq:=bL.below c8;have f2:=c8.size;have hI:Hid (∀{a:World},KX (λb=>Mu b\/b=E (U w)+1) (E (U wc)) wc a->ro a (λb=>¬(Mu b\/b=E (U w)+1)) 2 (J W (O G) X) (O G) G.flatten):=λ{a} q=>fR.out ((KX.aq c8).trans (q.mono (λ_ _ h=>h) f2));have hJ:Hid (∀{a:World},KX (λb=>Mu b\/b=E (U w)+1) (E (U wc)) wc a->KX (λb=>Mu b\/b=E (U w)+1) (E (U aB)) aB a):=λ{a} q=>(KX.aq c8).trans (q.mono (λ_ _ h=>h) f2);have f3:Hid (∀{a:World},KX (λb=>Mu b\/b=E (U w)+1) (E (U wc)) wc a->a.ownsRow 0 9 1 (J cg (O a5) ch) (O a5) (cd a5)/\a.ownsRow 0 9 1 (J ci (O a6) cj) (O a6) (cd a6)):=λ{a} q=>eF.out (hE.out.trans ((hJ.out q).mono (λ_ _ h=>h) hD));clear fR c8;have aN:=λj=>cell_of_row wc _ j _ 46 (0,0) (k.out aq.kx).2.2;have ay:E (U w)<E (U wc):=oM;have da:=eb.cell;have db:=eb.lt;by_cases eL:e=0
  ·subst eL
   cases jp:(eK.toList==[])
   ·go_wp2_with (first
     |(go_at_call 45;refine(bY aq.s.mk' _ _).mono ?_;rintro bx dc ⟨⟨a7,b8,rfl,a8,a1,bB⟩,bD⟩;have a2:=aq.no a1 a8 bB;have ba:a7≠0:=(by obtain⟨dd,de,dg,bE⟩:=bD dC;have:=cF.inj a8 bE;simp at this;omega);have cm:(a7==0)=false:=(sU ba))
     |(go_at_call 35;refine(bN a2.s.mk').mono ?_;rintro aZ aC ⟨rfl,o⟩;replace o:=o.symm;subst o))
    go_end0;exact cl.out a2 (lR _) ba
   ·by_cases f4:f1=2
    ·subst f4;by_cases hL:r<3
     ·go_wp2_with (first
       |(go_at_call 45;refine(bY aq.s.mk' _ _).mono ?_;rintro bx dc ⟨⟨a7,b8,rfl,a8,a1,bB⟩,bD⟩;have a2:=aq.no a1 a8 bB;have ba:a7≠0:=(by obtain⟨dd,de,dg,bE⟩:=bD dC;have:=cF.inj a8 bE;simp at this;omega);have cm:(a7==0)=false:=(sU ba))
       |(go_at_call 35;refine(bN a2.s.mk').mono ?_;rintro aZ aC ⟨rfl,o⟩;replace o:=o.symm;subst o))
      go_end0;exact cl.out a2 (lR _) ba
     ·have jq:decide (r<3)=false:=sU hL;by_cases eM:d7=0
      ·subst eM;have a1:Kp (E (U wc)) (E (U w)+1) wc (wc.setCell ⟨E (U w)+1,9,I⟩ (vN 0)):=⟨Q,Q,Q,sQ,λb _ c=>Below.heap_setCell _ ⟨E (U w)+1,9,I⟩ _ _ c⟩
       have eN:bP (wc.setCell ⟨E (U w)+1,9,I⟩ (vN 0)) (E (U w)+1) a0 0 hz 0 hA hB:=by
        have:=heap_setCell_same wc (E (U w)+1) 9 _ 126 (vN 0) aq.cv;simpa[bP] using this
       have a2:=aq.kp a1 eN;have jr:g≠E (U w)+1:=oM;have hM:=aq.cv.cell;have hN:=aq.cv.fz;have hO:=aq.cv.lt;have hP:wc.cell? ⟨g,11,I⟩=some (vN bk):=(R.out (k.out aq.kx).2.1).2.1 0 dC;have hQ:wc.cell? ⟨g,12,I⟩=some (vN br):=(R.out (k.out aq.kx).2.1).2.1 1 dC;have hR:wc.cell? ⟨g,13,I⟩=some (vN bl):=(R.out (k.out aq.kx).2.1).2.1 2 dC;have hT:wc.cell? ⟨g,14,I⟩=some (vN bs):=(R.out (k.out aq.kx).2.1).2.1 3 dC;have hU:wc.cell? ⟨g,15,I⟩=some (.string bt):=(R.out (k.out aq.kx).2.1).2.1 4 dC;have hV:wc.cell? ⟨g,16,I⟩=some (J bu bm bv):=(R.out (k.out aq.kx).2.1).2.1 5 dC;have hW:wc.cell? ⟨g,17,I⟩=some (vN 0):=(R.out (k.out aq.kx).2.1).2.1 6 dC;have hX:wc.cell? ⟨g,18,I⟩=some (vN 0):=(R.out (k.out aq.kx).2.1).2.1 7 dC;have hY:wc.cell? ⟨g,19,I⟩=some aF:=(R.out (k.out aq.kx).2.1).2.1 8 dC;have hZ:wc.cell? ⟨g,20,I⟩=some aF:=(R.out (k.out aq.kx).2.1).2.1 9 dC;have eO:wc.cell? ⟨g,21,I⟩=some aF:=(R.out (k.out aq.kx).2.1).2.1 10 dC;have bI:g<E (U wc):=oM;have ck:=dz (S:=λ_=>False) (D:=O M.ds) (w:=(wc.setCell ⟨E (U w)+1,9,I⟩ (vN 0))) (kind:=0) (n:=0) ⟨λe=>absurd e dC,dC,dC⟩
       have f5:Cx (wc.setCell ⟨E (U w)+1,9,I⟩ (vN 0)) (E (U w)+1) a0 (M.bt 0 c5) (O trs) (λ_=>False) 1 1:=by
        have f6:=f3.out (KX.cN a1 (.inr Q));rw[c4];exact⟨f6.1,eD,f6.2,eE,a2.s.pi,dW,ck.1,λ_ aE=>aE.elim,ck.2,lR _⟩
       have f7:=(R.out (k.out a2.kx).2.1).2.2.2.1;have f8:Hid (Calls Tryz.prog 50 #[.pointer (some ⟨E (U w)+1,0,I⟩),.agg (ae bk br bl bs bt (J bu bm bv))] (wc.setCell ⟨E (U w)+1,9,I⟩ (.int .i64 0)) (bS (wc.setCell ⟨E (U w)+1,9,I⟩ (.int .i64 0)) (E (U w)+1) a0 0 0 (λ_=>False) (O M.ds) (aG (h+3) (wc.setCell ⟨E (U w)+1,9,I⟩ (.int .i64 0)) (ae bk br bl bs bt (J bu bm bv)).toList*1))):=yX (h+3) f5 eN oM f7 hr;have h0:aG (h+3) (wc.setCell ⟨E (U w)+1,9,I⟩ (.int .i64 0)) (ae bk br bl bs bt (J bu bm bv)).toList<=96100:=hu.out (k.out a2.kx).2.1;clear ck f5 f7
       go_upto_region 14 with(first
        |(go_at_call 35;refine(bN aq.s.mk').mono ?_;rintro aZ aC ⟨rfl,o⟩;replace o:=o.symm;subst o)
        |(go_at_call 50;refine f8.out.mono ?_;rintro aZ dh ⟨s,t,u,cn,x,y,co,z,B,bF,bG,rfl,f9,ed,⟨ee,f'⟩,ga⟩))
       have gb:=a2.kp ed f9;obtain⟨bU,di⟩:=al1 dh (Ob (ai s t (J u cn x) (J y co z)) 39);generalize hq:World.alloc dh _=bH;have dj:dh.alloc (Ob (ai s t (J u cn x) (J y co z)) 39)=bH:=hq;rw[dj] at bU di;have dk:=gb.below bU;obtain⟨cN,gc⟩:∃cN,cN=E (U dh):=⟨_,Q⟩;rw[<-gc] at di⊢;have h1:E (U wc)<=E (U dh):=by have:=ed.size;simpa using this
       have js:=bU.size
       have gd:Hid (∀{a:World},KX (λb=>Mu b\/b=E (U w)+1) (E (U bH)) bH a->a.heap[cN]? =some (Ob (ai s t (J u cn x) (J y co z)) 39 (0,0))/\af (λb=>¬(Mu b\/b=E (U w)+1)) (Gd (O M.ds)) ee a (ai s t (J u cn x) (J y co z)).toList/\∀f,aU f a (ai s t (J u cn x) (J y co z)).toList<=aM):=λ{a} q=>by
        have ge:∀b,E (U wc)<=b->¬(Mu b\/b=E (U w)+1):=λb c C=>by
         rcases C with C|C
         ·have:=bK.out.2.2.1 b C;omega
         ·omega
        have gf:=af.weaken (S':=λb=>¬(Mu b\/b=E (U w)+1)) (λb c _=>ge b (by rcases c with c|c;exact c.elim;simpa using c)) _ _ f';have gg:=af.frame (w':=bH) (λb _ p=>bU.block b p) bU.size _ _ gf;refine⟨(q.block _ (gE di).1 (ge _ oM)).trans di,af.frame (λb c p=>q.block b p c) q.size _ _ gg,λf=>?_⟩;rw[aJ (λb c p=>q.block b p c) q.size _ _ gg,aJ (S:=λb=>¬(Mu b\/b=E (U w)+1)) (w':=bH) (λb _ p=>bU.block b p) bU.size _ _ gf];have:=ga f;rw[cK.out.1 (k.out a2.kx).2.1] at this;omega
       have ef:Hid (KX (λb=>Mu b\/b=E (U w)+1) (E (U wc)) wc bH):=((KX.cN a1 (.inr Q)).trans ((KX.cN ed (.inr Q)).mono (λ_ _ h=>h) sQ)).trans ((KX.aq bU).mono (λ_ _ h=>h) h1);clear hq dj bU di f9 ed f' ga gb f8 h0 a1 eN a2 hP hQ hR hT hU hV hW hX hY hZ eO bI hM hN hO aN ay da db gc;go_upto_region 15 with(go_at_call 51;refine(jv dk.s.mk' dk.cv).mono ?_;rintro cL cp ⟨gh,eg,rfl,gi,eP,gj⟩)
       have dl:=dk.no eP gi gj;have eQ:KX (λb=>Mu b\/b=E (U w)+1) (E (U bH)) bH cp:=KX.cN eP dk.s.dT;have h2:=eQ.size;have eh:=gd.out eQ;have h3:=λj=>cell_of_row cp _ j _ 39 (0,0) eh.1;have h4:cN<E (U cp):=(gE eh.1).1;have aN:=λj=>cell_of_row cp _ j _ 46 (0,0) (k.out dl.kx).2.2;have ay:E (U w)<E (U cp):=oM;clear dk gi eP gj;by_cases eS:gh=0
       ·subst eS;have h5:Hid (Calls Tryz.prog 76 #[.agg (ai s t (J u cn x) (J y co z)),vN (O G)] cp (ix cp)):=wN eh.2.1 (lT (Nat.mul_le_mul_left 6100 (lT (eh.2.2 ee) hw)) dC) (O G) fQ
        go_wp2_with (first
         |(go_at_call 76;refine h5.out.mono ?_;rintro cM d ⟨jt,rfl,eT⟩;have a9:=dl.below eT;have ju:=eT.size;clear aN ay h3 h4;have aN:=λj=>cell_of_row d _ j _ 46 (0,0) (k.out a9.kx).2.2;have ay:E (U w)<E (U d):=oM)
         |(go_at_call 45;refine(bY a9.s.mk' _ _).mono ?_;rintro bx dc ⟨⟨a7,b8,rfl,a8,a1,bB⟩,bD⟩;have gl:=a9.no a1 a8 bB;have ba:a7≠0:=(by obtain⟨dd,de,dg,bE⟩:=bD dC;have:=cF.inj a8 bE;simp at this;omega);have cm:(a7==0)=false:=(sU ba))
         |(go_at_call 35;refine(bN gl.s.mk').mono ?_;rintro aZ aC ⟨rfl,o⟩;replace o:=o.symm;subst o)
         |(go_at_call 35;refine(bN a9.s.mk').mono ?_;rintro aZ aC ⟨rfl,o⟩;replace o:=o.symm;subst o)
         |(go_at_call 35;refine(bN dl.s.mk').mono ?_;rintro aZ aC ⟨rfl,o⟩;replace o:=o.symm;subst o))
        ·go_end0;exact cl.out gl (lR _) ba
        ·have dm:KX (λb=>Mu b\/b=E (U w)+1) (E (U bH)) bH d:=eQ.trans ((KX.aq eT).mono (λ_ _ h=>h) h2);have eU:E (U wc)<=E (U bH):=ef.out.size
         have ei:bw d bA (dR ⟨c9,2,r,c'⟩):=((ef.out.trans (dm.mono (λ_ _ h=>h) eU)).block bA eb.lt (λC=>by
          rcases C with C|C
          ·have:=bK.out.2.2.1 bA C;omega
          ·omega)).trans eb
         have cq:=gd.out dm
         obtain⟨bO,rfl⟩:∃bO,ee=bO+1:=by
          cases ee with
          |zero=>exact absurd cq.2.1 (λar=>ar)
          |succ bO=>exact⟨bO,Q⟩
         obtain⟨L,N,gm,gn,h6,jw,h7,h8⟩:=cq.2.1.parts
         have h9:cn=O L:=by
          obtain⟨_,_,e,_⟩:=gm;simp at e;exact e.2.1
         have h':co=O N:=by
          obtain⟨_,_,e,_⟩:=gn;simp at e;exact e.2.1
         subst h9;subst h';have gp:Hid (∀{a:World},Below (E (U d)) d a->(Ce a bA (dR ⟨c9,2,r,c'⟩))/\(Ce a (E (U w)) (ae 7 pos aY m name (J (aS g) (O P) kc)))/\(Ce a (E (U w)+1) (dL a0 0 B 0 bF bG))/\(Ce a cN (ai s t (J u (O L) x) (J y (O N) z)))):=λ{a} c=>⟨λj=>cell_of_row a _ j _ 117 (0,0) ((c.block _ ei.lt).trans ei),λj=>cell_of_row a _ j _ 46 (0,0) ((c.block _ ay).trans (k.out a9.kx).2.2),λj=>cell_of_row a _ j _ 126 (0,0) ((c.block _ (gE a9.cv).1).trans a9.cv),λj=>cell_of_row a _ j _ 39 (0,0) ((c.block _ (gE cq.1).1).trans cq.1)⟩;clear aN ay;go_region_held3 (λa=>(Ce a bA (dR ⟨c9,2,r,c'⟩))/\(Ce a (E (U w)) (ae 7 pos aY m name (J (aS g) (O P) kc)))/\(Ce a (E (U w)+1) (dL a0 0 B 0 bF bG))/\(Ce a cN (ai s t (J u (O L) x) (J y (O N) z)))) (first|assumption|exact gp.out ((Below.refl _ _).drew)|exact gp.out ((al1 _ _).1.drew)) (fail)
         obtain⟨aO,dn⟩:=al1 d (Ob (df r mod pos B (J W (O G) X) s t (J u (O L) x) (J y (O N) z) aF) 71);have aO:=aO.drew;generalize hq:World.drew (World.alloc d _)=aD;have dj:(d.alloc (Ob (df r mod pos B (J W (O G) X) s t (J u (O L) x) (J y (O N) z) aF) 71)).drew=aD:=hq;have dn:aD.heap[E (U d)]? =some (Ob (df r mod pos B (J W (O G) X) s t (J u (O L) x) (J y (O N) z) aF) 71 (0,0)):=by rw[<-dj];exact dn
         rw[dj] at aO;have jx:E (U d)<E (U aD):=(gE dn).1;have d9:MS aD mb (M.bt 0 eg) trs ims fns Xd Xi Xf (λb=>(Mu b\/b=E (U w)+1)\/b=E (U d)) H:=a9.s.grow aO (λb c=>.inl c) (λb c=>by rcases c with c|c;(have:=a9.s.mlt b c;omega);omega) (λb p c=>by rcases c with c|c;exact c;omega);have dp:al (λb=>¬(Mu b\/b=E (U w)+1)) d aD:=λb _ p=>aO.block b p;have ej:=λj=>cell_of_row aD _ j _ 71 (0,0) dn;have aN:=λj=>cell_of_row aD _ j _ 46 (0,0) ((aO.block _ oM).trans (k.out a9.kx).2.2);have ay:E (U w)<E (U aD):=oM;have eV:bw aD bA (dR ⟨c9,2,r,c'⟩):=(aO.block _ ei.lt).trans ei;have da:=eV.cell;have db:=eV.lt;have gq:Hid (Calls Tryz.prog 77 #[.pointer (aS mb),.agg (ae 7 pos aY m name (J (aS g) (O P) kc)),.agg (df r mod pos B (J W (O G) X) s t (J u (O L) x) (J y (O N) z) aF),vN et] aD (uD aD mb (M.bt 0 eg) trs ims fns Xd Xi Xf (λb=>(Mu b\/b=E (U w)+1)\/b=E (U d)) H)):=rP d9 (af.frame dp aO.size _ _ cq.2.1) (gm.frame dp aO.size) (gn.frame dp aO.size) h7 (λar aE=>af.frame dp aO.size _ _ (af.le (h8 ar aE) _ (Nat.le_succ _))) ((hI.out (ef.out.trans (dm.mono (λ_ _ h=>h) eU))).frame dp aO.size) hC fQ h6 et;have jy:=dm.size
         have ia:Hid (∀{a:World},KX (λb=>(Mu b\/b=E (U w)+1)\/b=E (U d)) (E (U aD)) aD a->(KX Mu (E (U w)) w a/\al (λb=>b<B0) w a/\a.heap[E (U w)]? =some (Ob (ae 7 pos aY m name (J (some ⟨g,0,I⟩) (O P) kc)) 46 (0,0)))/\(a.ownsRow 0 9 1 (J cg (O a5) ch) (O a5) (cd a5)/\a.ownsRow 0 9 1 (J ci (O a6) cj) (O a6) (cd a6))/\af (λb=>¬(λb=>(Mu b\/b=E (U w)+1)\/b=E (U d)) b) (Gd (O M.ds)) (bO+1) a (ai s t (J u (O L) x) (J y (O N) z)).toList/\∀f,aU f a (ai s t (J u (O L) x) (J y (O N) z)).toList<=aM):=λ{a} q=>by
          have fy:=a9.kx.size;have ib:KX (λb=>Mu b\/b=E (U w)+1) (E (U aa)) aa a:=a9.kx.trans (((KX.aq aO).mono (λ_ _ h=>h) fy).trans (q.mono (λb p c=>by rcases c with c|c;exact c;omega) oM));have ic:KX (λb=>Mu b\/b=E (U w)+1) (E (U wc)) wc a:=(ef.out.trans (dm.mono (λ_ _ h=>h) eU)).trans (((KX.aq aO).mono (λ_ _ h=>h) oM).trans (q.mono (λb p c=>by rcases c with c|c;exact c;omega) oM));have gr:=af.weaken (S':=λb=>¬(λb=>(Mu b\/b=E (U w)+1)\/b=E (U d)) b) (λb c p C=>by rcases C with C|C;exact c C;omega) _ _ cq.2.1;have gs:=af.frame (w':=aD) (λb _ p=>aO.block b p) aO.size _ _ gr;refine⟨k.out ib,f3.out ic,af.frame (λb c p=>q.block b p c) q.size _ _ gs,λf=>?_⟩;rw[aJ (λb c p=>q.block b p c) q.size _ _ gs,aJ (S:=λb=>¬(λb=>(Mu b\/b=E (U w)+1)\/b=E (U d)) b) (w':=aD) (λb _ p=>aO.block b p) aO.size _ _ gr];exact cq.2.2 f
         have id:Hid ((∀b,(Value.slice cg (O a5) ch).ownBlock=some b->¬(λb=>(Mu b\/b=E (U w)+1)\/b=E (U d)) b)/\∀b,(Value.slice ci (O a6) cj).ownBlock=some b->¬(λb=>(Mu b\/b=E (U w)+1)\/b=E (U d)) b):=by
          have c2:∀b,E (U aa)<=b/\b<E (U aw)->¬(λb=>(Mu b\/b=E (U w)+1)\/b=E (U d)) b:=λb c C=>by
           rcases C with(C|C)|C
           ·have:=bK.out.2.2.1 b C;omega
           ·omega
           ·omega
          exact⟨λb c=>c2 b (fH.out.1 b c),λb c=>c2 b (fH.out.2 b c)⟩
         go_upto_if 124 with fail
         go_cut [] (λaC=>∃(aW:List Dd) (av aV:Int),O aW=O M.ds/\MS aC mb ({M with ds:=aW}.bt av aV) trs ims fns Xd Xi Xf (λb=>(Mu b\/b=E (U w)+1)\/b=E (U d)) H/\KX (λb=>(Mu b\/b=E (U w)+1)\/b=E (U d)) (E (U aD)) aD aC/\KT (λek=>ek≠64/\ek≠88) aD aC/\(M.fk≠0->av=M.fk))
         case first=>
          by_cases cJ:r=3
          ·subst cJ;go_wp2_with (go_at_call 77;refine gq.out.mono ?_;rintro jz jA ⟨ie,el,em,rfl,ig,bz,cO,en,cr⟩)
           go_meet;exact⟨ie,el,em,ig,bz,cO,cr,λh=>by have e:=a9.hf h;exact absurd e.symm h⟩
          ·have jB:(r==3)=false:=sU cJ;go_wp2_with fail;go_meet;exact⟨M.ds,0,eg,Q,d9,KX.refl _ _ _,KT.below (Below.refl _ _),a9.hf⟩
         case rest=>
          clear aN ay da db ej gq;obtain⟨aW,el,em,ec,bz,cO,cr,en⟩:=hcut;have jC:=cO.size;have eW:bw wc bA (dR ⟨c9,2,r,c'⟩):=au cr eV dC;have eo:wc.heap[E (U w)]? =some (Ob (ae 7 pos aY m name (J (aS g) (O P) kc)) 46 (0,0)):=au cr ((aO.block _ oM).trans (k.out a9.kx).2.2) dC;have eX:wc.heap[E (U d)]? =some (Ob (df r mod pos B (J W (O G) X) s t (J u (O L) x) (J y (O N) z) aF) 71 (0,0)):=au cr dn dC;have eY:bP wc (E (U w)+1) a0 0 B 0 bF bG:=au cr ((aO.block _ (gE a9.cv).1).trans a9.cv) dC;have jD:r<(O trs:Int):=f0.2.2 Q;have ew:0<=r:=f0.1;obtain⟨ar,aE⟩:∃ar,trs[r.toNat]? =some ar:=⟨_,gG oM⟩;obtain⟨gt,ih,gu,jE,-,gv⟩:=aL bz.tr Q (λar aE=>by obtain⟨cG,cV,b2,c5,ii,b8,ij,e,-⟩:=bz.jq ar aE;rw[e];rfl) aE;obtain⟨jF,jG,jI,jJ,dq,dr,aX,rfl,gw,gx,jK⟩:=bz.jq ar (mG aE);have ik:wc.cell? ⟨mb,2,I⟩=some (J (aS gt) (O trs) ih):=(bz.mk'.cell 2).trans (congrArg some gu);have jL:=bz.mk'.lt;have il:wc.cell? ⟨gt,r.toNat*5+4,I⟩=some (J dq (O aX) dr):=gv 4 dC;have da:=eW.cell;have db:=eW.lt;have aN:=λj=>cell_of_row wc _ j _ 46 (0,0) eo;have ay:E (U w)<E (U wc):=(gE eo).1;have gz:Hid (ro wc (λb=>¬((λb=>(Mu b\/b=E (U w)+1)\/b=E (U d)) b)) 9 (J dq (O aX) dr) (O aX) aX.flatten/\(∀bQ∈aX,fT (λb=>¬((λb=>(Mu b\/b=E (U w)+1)\/b=E (U d)) b)) (O aW) H wc bQ)):=⟨gw,gx⟩;clear gv aE gu gw gx;go_wp2_with fail;go_quiet (fail)
          have b9:=fI (Below.refl (E (U wc)) wc) nq;have b6:=bz.below b9;have jM:=b9.size
          have jN:IntKind.i64.wrap ((O P:Int) - 2)=(O P:Int) - 2:=by
           have:=bJ.out;rw[IntKind.wrap_i64];omega
          have eZ:=(b9.block _ ay).trans eo;have gA:=(b9.block _ (gE eX).1).trans eX;have gB:bP (wc.drewN nq) (E (U w)+1) a0 0 B 0 bF bG:=(b9.block _ (gE eY).1).trans eY;clear aN ay da db ik il;have aN:=λj=>cell_of_row (wc.drewN nq) _ j _ 46 (0,0) eZ;have ay:E (U w)<E (U (wc.drewN nq)):=(gE eZ).1;obtain⟨ct,im⟩:∃ct,ct=wc:=⟨_,Q⟩;subst im;go_upto_if 146 with fail
          go_cut [] (λaC=>∃(av aV:Int),MS aC mb ({M with ds:=aW}.bt av aV) trs ims fns Xd Xi Xf (λb=>(Mu b\/b=E (U w)+1)\/b=E (U d)) H/\KX (λb=>(Mu b\/b=E (U w)+1)\/b=E (U d)) (E (U (ct.drewN nq))) (ct.drewN nq) aC/\KT (λek=>ek≠88) (ct.drewN nq) aC/\(M.fk≠0->av=M.fk)/\(av=0->O aX=O Z))
          case first=>
           by_cases e0:(O aX:Int)=(O P:Int) - 2
           ·have e1:Hid (O aX=O Z):=by
             have:=bJ.out;show _=_;omega
            have io:((O aX:Int)==(O P:Int) - 2)=true:=sU e0;clear e0;go_wp2_with fail;go_meet;exact⟨el,em,b6,KX.refl _ _ _,KT.below (Below.refl _ _),en,λ_=>e1.out⟩
           ·have io:((O aX:Int)==(O P:Int) - 2)=false:=sU e0;go_wp2_with (go_at_call 45;refine(bY b6.mk' _ _).mono ?_;rintro bx dc ⟨⟨a7,b8,rfl,a8,a1,bB⟩,bD⟩)
            go_meet
            have ba:a7≠0:=by
             obtain⟨dd,de,dg,bE⟩:=bD dC;have:=cF.inj a8 bE;simp at this;omega
            exact⟨a7,b8,b6.no a8 a1,KX.cN a1 b6.dT,KT.yU b6.mk' a1,λh=>by have e:=en h;have:=bB (by show el≠0;rw[e];exact h);rw[this];exact e,λe=>absurd e ba⟩
          case rest=>
           obtain⟨e2,e3,e4,ep,e5,gC,gD⟩:=hcut;obtain⟨ax,ip⟩:∃ax,ax=wc:=⟨_,Q⟩;subst ip;have gH:=au e5 gA dC;have gI:bP ax (E (U w)+1) a0 0 B 0 bF bG:=au e5 gB dC;have jP:=ep.size;have jQ:=cO.size;have e6:KX (λb=>(Mu b\/b=E (U w)+1)\/b=E (U d)) (E (U aD)) aD ax:=(cO.trans ((KX.aq b9).mono (λ_ _ h=>h) oM)).trans (ep.mono (λ_ _ h=>h) oM)
           have bb:Hid (∀{a:World},KX (λb=>(Mu b\/b=E (U w)+1)\/b=E (U d)) (E (U ax)) ax a->((KX Mu (E (U w)) w a/\al (λb=>b<B0) w a/\a.heap[E (U w)]? =some (Ob (ae 7 pos aY m name (J (some ⟨g,0,I⟩) (O P) kc)) 46 (0,0)))/\(a.ownsRow 0 9 1 (J cg (O a5) ch) (O a5) (cd a5)/\a.ownsRow 0 9 1 (J ci (O a6) cj) (O a6) (cd a6))/\af (λb=>¬(λb=>(Mu b\/b=E (U w)+1)\/b=E (U d)) b) (Gd (O aW)) (bO+1) a (ai s t (J u (O L) x) (J y (O N) z)).toList/\∀f,aU f a (ai s t (J u (O L) x) (J y (O N) z)).toList<=aM)/\ro a (λb=>¬(λb=>(Mu b\/b=E (U w)+1)\/b=E (U d)) b) 9 (J dq (O aX) dr) (O aX) aX.flatten/\∀bQ∈aX,fT (λb=>¬(λb=>(Mu b\/b=E (U w)+1)\/b=E (U d)) b) (O aW) H a bQ):=λ{a} q=>by
            have d4:KX (λb=>(Mu b\/b=E (U w)+1)\/b=E (U d)) (E (U aD)) aD a:=e6.trans (q.mono (λ_ _ h=>h) e6.size);have a':al (λb=>¬(λb=>(Mu b\/b=E (U w)+1)\/b=E (U d)) b) ct a:=λb c p=>(q.block b oM c).trans ((ep.block b oM c).trans (b9.block b p));have cx:E (U ct)<=E (U a):=oH q.size;have gK:=ia.out d4;rw[<-ec] at gK;exact⟨gK,gz.out.1.frame a' cx,λbQ ds=>(gz.out.2 bQ ds).frame a' cx⟩
           have gL:Hid (O aW=O M.ds):=ec;have gM:Hid (e2=0->O aX=O Z):=gD;have gN:IL ax mb (E (U w)+1) (E (U d)) {M with ds:=aW} trs ims fns Xd Xi Xf (λb=>(Mu b\/b=E (U w)+1)\/b=E (U d)) H (dL a0 0 B 0 bF bG) (λv=>df r mod pos B (J W (O G) X) s t (J u (O L) x) (J y (O N) z) v) 0 0 (λb=>(Mu b\/b=E (U w)+1)\/b=E (U d)) H fo fc fns Xf I 0 [] ax e2 e3:=⟨by rw[<-fk];exact e4,KX.refl _ _ _,gI,gH,World.ownsRow_nil _ _ _ _,λb e=>by simp[Value.ownBlock] at e,.inr Q,.inl (.inr Q),e4.dT,λ_ h=>h,λ_ _ h=>h,gC,lR _,λ_=>rfl,lR _,lR _⟩;clear bz b6 cO cr b9 eo eX eY eZ gA gB e4 ep e5 gH gI ec gD e6 gC en aN ay eW;have e7:Hid (E (U d)<E (U ax)/\E (U w)+1<E (U d)):=⟨oM,oM⟩;have e8:=(bb.out (KX.refl _ _ _)).1.1.2.2;have aN:=λj=>cell_of_row ax _ j _ 46 (0,0) e8;have ay:E (U w)<E (U ax):=(gE e8).1;have jR:(O P:Int)<=(kc:Int):=oM;have jS:(2:Int)<=(O P:Int):=oH bJ.out;by_cases iq:kc=2
           case' pos=>
            subst iq
            have ir:Hid (O Z=0):=by
             have:=bJ.out;show _=_;omega
            go_wp2_with fail
           case' neg=>
            go_wp2_with fail;rw[show O P - 2=O Z from(oH bJ.out)]
           all_goals
            have gO:M.iv.ownBlock≠some (E (U d)):=λe=>by
             have aR:=bK.out.2.2.1 _ (bK.out.1.lL _ e);have b4:=e7.out.2;omega
            have eq:Hid (∀{a:World} {i Y:Nat} {av aV:Int} {bc:Nat->Prop} {bj:Nat} {bo:OA} {bp:Nat} {bd:VV} {bn:Nat} {ah:OA} {aj:Nat} {F:List Value},IL ax mb (E (U w)+1) (E (U d)) {M with ds:=aW} trs ims fns Xd Xi Xf (λb=>(Mu b\/b=E (U w)+1)\/b=E (U d)) H (dL a0 0 B 0 bF bG) (λv=>df r mod pos B (J W (O G) X) s t (J u (O L) x) (J y (O N) z) v) i Y bc bj bo bp bd bn ah aj F a av aV->(∀b,b<E (U w)->bc b->Mu b)/\∀b,bc b->B0<=b):=λ{a i Y av aV bc bj bo bp bd bn ah aj F} A=>by
             obtain⟨jT,ez⟩:=e7.out;refine⟨λb p c=>?_,λb c=>?_⟩
             ·rcases A.m2 b oM c with(aR|aR)|aR
              ·exact aR
              ·omega
              ·omega
             ·by_cases c7:b<E (U ax)
              ·rcases A.m2 b c7 c with(aR|aR)|aR
               ·exact bK.out.2.1 b aR
               ·omega
               ·omega
              ·omega
            have iu:Hid (∀{a:World} {i:Nat} {av aV:Int} {bc:Nat->Prop} {bj:Nat} {bo:OA} {bp:Nat} {bd:VV} {bn:Nat} {ah:OA} {aj:Nat} {F:List Value},IL ax mb (E (U w)+1) (E (U d)) {M with ds:=aW} trs ims fns Xd Xi Xf (λb=>(Mu b\/b=E (U w)+1)\/b=E (U d)) H (dL a0 0 B 0 bF bG) (λv=>df r mod pos B (J W (O G) X) s t (J u (O L) x) (J y (O N) z) v) i (((Z.map (aG (h+3) w)).take i).sum*aM) bc bj bo bp bd bn ah aj F a av aV->i<=O Z->av≠0->gF w mb M trs ims fns Xd Xi Xf Mu H (O P) bg (.returned (.tuple #[])) a):=λ{a i av aV bc bj bo bp bd bn ah aj F} A d6 eH=>by
             have aR:=cK.out.2.2 i;have b4:=Nat.mul_le_mul (show((Z.map (aG (h+3) w)).take i).sum<=bg by omega) (show aM<=bg by omega);have cJ:=A.fl;have iv:=bJ.out;refine⟨av,aV,aW,bd,bo,bp,ims,ivo,ivc,bc,bj,Xi,bn,Q,gL.out,by rw[<-cS];exact A.s,(bb.out A.kx).1.1.1,λb c=>A.m1 b (.inl (.inl c)),(eq.out A).1,A.hf,A.hH,oM,oM,λe=>absurd e eH,oM,lT A.xf oM⟩
            go_loopg [17,18,155] (O Z) (λiw _ _ gP wr=>∃(i:Nat) (av aV:Int) (bc:Nat->Prop) (bj:Nat) (bo:OA) (bp:Nat) (bd:VV) (bn:Nat) (ah:OA) (aj:Nat) (F:List Value),iw=O Z - i/\gP=.int .i64 i/\i<=O Z/\Hid (O F=i)/\IL ax mb (E (U w)+1) (E (U d)) {M with ds:=aW} trs ims fns Xd Xi Xf (λb=>(Mu b\/b=E (U w)+1)\/b=E (U d)) H (dL a0 0 B 0 bF bG) (λv=>df r mod pos B (J W (O G) X) s t (J u (O L) x) (J y (O N) z) v) i (((Z.map (aG (h+3) w)).take i).sum*aM) bc bj bo bp bd bn ah aj F wr av aV/\Hid (av=0->O aX=O Z))
            case atStart=>exact⟨0,e2,e3,_,H,fo,fc,fns,Xf,I,0,[],Q,Q,zL _,Q,by rw[List.take_zero,List.sum_nil,Nat.zero_mul];exact gN,gM⟩
            case round=>
             clear gN gM e8 aN ay;obtain⟨i,av,aV,bc,bj,bo,bp,bd,bn,ah,aj,F,gQ,rfl,d6,gR,A,e9⟩:=hrel;have iy:Hid (gk=O Z - i):=gQ;clear gQ;by_cases e':i<O Z
             ·first
              |exact absurd e' (oH ir.out)
              |have iz:(i:Int)<(O Z:Int):=by omega
               obtain⟨ak,bh,ao,ap,ab,bi,ac,fa,ez,fb⟩:=hx.out i e';have bq:=fb wr (bb.out A.kx).1.1.2.1;have bI:g<E (U wr):=oH (bb.out A.kx).1.1.1.size;have cY:wr.cell? ⟨g,22+i*11,I⟩=some (vN 8):=bq.1 0 dC;have ce:wr.cell? ⟨g,22+i*11+1,I⟩=some (vN ak):=bq.1 1 dC;have cf:wr.cell? ⟨g,22+i*11+2,I⟩=some (vN bh):=bq.1 2 dC;have cZ:wr.cell? ⟨g,22+i*11+3,I⟩=some (vN ao):=bq.1 3 dC;have c0:wr.cell? ⟨g,22+i*11+4,I⟩=some (.string ap):=bq.1 4 dC;have b5:wr.cell? ⟨g,22+i*11+5,I⟩=some (J ab bi ac):=bq.1 5 dC;have bx:wr.cell? ⟨g,22+i*11+6,I⟩=some (vN 0):=bq.1 6 dC;have aZ:wr.cell? ⟨g,22+i*11+7,I⟩=some (vN 0):=bq.1 7 dC;have c1:wr.cell? ⟨g,22+i*11+8,I⟩=some aF:=bq.1 8 dC;have cL:wr.cell? ⟨g,22+i*11+9,I⟩=some aF:=bq.1 9 dC;have cM:wr.cell? ⟨g,22+i*11+10,I⟩=some aF:=bq.1 10 dC;have bV:=A.below (al1 wr (Ob (ae 8 ak bh ao ap (J ab bi ac)) 46)).1;clear bq;by_cases b0:av=0
               ·subst b0;have e1:Hid (O aX=O Z):=e9.out Q
                have iA:∀ar:Value,Hid (O (F++[ar])=i+1):=λar=>by
                 have:=gR.out;show(F++[ar]).length=i+1;simp;omega
                obtain⟨bQ,ds⟩:∃bQ,aX[i]? =some bQ:=⟨_,gG (oH (e9.out Q))⟩;have gS:=mG ds
                have gT:Hid (∀{a:World},KX (λb=>(Mu b\/b=E (U w)+1)\/b=E (U d)) (E (U ax)) ax a->∃g iB,dq=some ⟨g,0,I⟩/\dr=iB/\∀j,j<9->a.cell? ⟨g,i*9+j,I⟩=bQ[j]?):=λ{a} q=>by
                 obtain⟨V,fd,iC,-,iD⟩:=ro.iH (bb.out q).2.1 Q (λar aE=>by obtain⟨jU,cG,cV,b2,c5,ii,b8,ij,jV,eg,jW,jX,em,jY,e3,jZ,gU,j0,j1,e,-⟩:=(bb.out q).2.2 ar aE;rw[e];rfl) ds;have gV:dq=some ⟨V,0,I⟩/\dr=fd:=sU iC;exact⟨V,fd,gV.1,gV.2,iD⟩
                obtain⟨dt,du,dv,dw,dx,dy,dA,dB,dD,dE,dF,dG,dH,dI,dJ,dK,dM,dN,dO,rfl,gW,gX,gY,gZ⟩:=(bb.out (KX.refl _ _ _)).2.2 bQ gS;obtain⟨V,fd,rfl,rfl,-⟩:=gT.out A.kx
                have bW:Hid (∀{a:World},KX (λb=>(Mu b\/b=E (U w)+1)\/b=E (U d)) (E (U ax)) ax a->∀j,j<9->a.cell? ⟨V,i*9+j,I⟩=(eR dt du (J dv dw dx) (J dy dA dB) dD (O dF) dE dG dH (J dI dJ dK) (J dM dN dO)).toList[j]?):=λ{a} q=>by
                 obtain⟨b3,j2,iE,-,iF⟩:=gT.out q;obtain rfl:V=b3:=sU iE;exact iF
                have j3:(i:Int)<(O aX:Int):=oH (e9.out Q);have fe:=fb (wr.alloc (Ob (ae 8 ak bh ao ap (J ab bi ac)) 46)) (bb.out bV.kx).1.1.2.1;obtain⟨a3,a4,rfl,rfl,g0⟩:=ud (h:=h+1) fe.2.1
                have er:FK B0 (h+1) (wr.alloc (Ob (ae 8 ak (O a4:Int) ao ap (J ab (O a3) ac)) 46)) ab ac a3 a4 (aG (h+3) w (ae 8 ak (O a4:Int) ao ap (J ab (O a3) ac)).toList):=by
                 have e:=fe.2.2;have f:=g0;rw[show aG (h+1+2) (wr.alloc (Ob (ae 8 ak (O a4:Int) ao ap (J ab (O a3) ac)) 46)) (ae 8 ak (O a4:Int) ao ap (J ab (O a3) ac)).toList=aG (h+3) w (ae 8 ak (O a4:Int) ao ap (J ab (O a3) ac)).toList from e] at f;exact f
                obtain⟨dP,iG⟩:∃dP,dP=aG (h+3) w (ae 8 ak (O a4:Int) ao ap (J ab (O a3) ac)).toList:=⟨_,Q⟩;rw[<-iG] at er fa;have g1:6100*(dP*aM)<=17592186044416:=rB (by have aR:=oa fa;have b4:=cK.out.2.2 (i+1);omega)
                have iH:Hid (B0<=E (U (wr.alloc (Ob (ae 8 ak (O a4:Int) ao ap (J ab (O a3) ac)) 46)))):=by
                 have aR:=(bb.out bV.kx).1.1.1.size;show B0<=_;omega
                have iI:Hid (∀{a:World},Below (E (U (wr.alloc (Ob (ae 8 ak (O a4:Int) ao ap (J ab (O a3) ac)) 46)))) (wr.alloc (Ob (ae 8 ak (O a4:Int) ao ap (J ab (O a3) ac)) 46)) a->Calls Tryz.prog 78 #[.pointer (aS mb),vN mod,.agg (ae 8 ak (O a4:Int) ao ap (J ab (O a3) ac)),.pointer (aS (E (U w)+1)),.agg (df r mod pos B (J W (O G) X) s t (J u (O L) x) (J y (O N) z) (J ah (O F) aj)),.agg (eR dt du (J dv dw dx) (J dy dA dB) dD (O dF) dE dG dH (J dI dJ dK) (J dM dN dO))] a (jH a mb (E (U w)+1) ({{M with ds:=aW} with fv:=J bo (O bd) bp}.bt 0 aV) trs ims bd Xd Xi bn bc bj (dP*aM))):=λ{a} c=>by
                 have aH:=bV.below c;have g2:=bb.out aH.kx;have g3:=bb.out (KX.refl (λb=>(Mu b\/b=E (U w)+1)\/b=E (U d)) (E (U ax)) ax);have iJ:al (λb=>b<B0) (wr.alloc (Ob (ae 8 ak (O a4:Int) ao ap (J ab (O a3) ac)) 46)) a:=λb _ p=>c.block b p;have g4:=er.frame iJ iH.out er.zf
                 have iK:CB a (E (U w)+1) a0 0 B 0 bF bG bc:=by
                  have cI:=aH.yW;have c3:=g2.1.2.1;have g5:=g3.1.2.1;have cw:=id.out;rw[c4] at cI⊢;exact⟨cI,aH.m1 _ aH.ni,c3.1,eD,c3.2,eE,λb c=>aH.wk b (cw.1 b c) (g5.1.lt b c).2,λb c=>aH.wk b (cw.2 b c) (g5.2.lt b c).2⟩
                 exact tI (h:=h+1) aH.s iK Q (oI aH.fl bJ.out) (ivo:=ivo) (ivc:=ivc) cS dW (eq.out aH).2 oM eu g4 oM g4.zf (af.frame aH.same aH.kx.size _ _ (af.weaken aH.wk _ _ g3.1.2.2.1)) g2.1.2.2.2 cK.out.2.1 ((gW.weaken aH.wk).frame aH.same aH.kx.size) (λar aE=>af.frame aH.same aH.kx.size _ _ (af.weaken aH.wk _ _ (gX ar aE))) (af.frame aH.same aH.kx.size _ _ (af.weaken aH.wk _ _ gY)) gZ g1
                have g6:Hid (∀{a:World},KX (λb=>(Mu b\/b=E (U w)+1)\/b=E (U d)) (E (U ax)) ax a->a.heap[E (U wr)]? =some (Ob (ae 8 ak (O a4:Int) ao ap (J ab (O a3) ac)) 46 (0,0))->a.heap[E (U d)]? =some (Ob (df r mod pos B (J W (O G) X) s t (J u (O L) x) (J y (O N) z) (J ah (O F) aj)) 71 (0,0))->(Ce a (E (U wr)) (ae 8 ak (O a4:Int) ao ap (J ab (O a3) ac)))/\(Ce a (E (U d)) (df r mod pos B (J W (O G) X) s t (J u (O L) x) (J y (O N) z) (J ah (O F) aj)))/\a.cell? ⟨V,i*9,I⟩=some (.string dt)/\a.cell? ⟨V,i*9+1,I⟩=some (vN du)/\a.cell? ⟨V,i*9+2,I⟩=some (J dv dw dx)/\a.cell? ⟨V,i*9+3,I⟩=some (J dy dA dB)/\a.cell? ⟨V,i*9+4,I⟩=some (J dD (O dF) dE)/\a.cell? ⟨V,i*9+5,I⟩=some (vN dG)/\a.cell? ⟨V,i*9+6,I⟩=some (vN dH)/\a.cell? ⟨V,i*9+7,I⟩=some (J dI dJ dK)/\a.cell? ⟨V,i*9+8,I⟩=some (J dM dN dO)):=λ{a} q aR b4=>⟨λj=>cell_of_row a _ j _ 46 (0,0) aR,λj=>cell_of_row a _ j _ 71 (0,0) b4,bW.out q 0 dC,bW.out q 1 dC,bW.out q 2 dC,bW.out q 3 dC,bW.out q 4 dC,bW.out q 5 dC,bW.out q 6 dC,bW.out q 7 dC,bW.out q 8 dC⟩;have iL:Hid (¬bc (E (U wr))):=λC=>oH (A.s.mlt _ C);have iM:Hid (∀{a:World},Below (E (U (wr.alloc (Ob (ae 8 ak (O a4:Int) ao ap (J ab (O a3) ac)) 46)))) (wr.alloc (Ob (ae 8 ak (O a4:Int) ao ap (J ab (O a3) ac)) 46)) a->(Ce a (E (U wr)) (ae 8 ak (O a4:Int) ao ap (J ab (O a3) ac)))/\(Ce a (E (U d)) (df r mod pos B (J W (O G) X) s t (J u (O L) x) (J y (O N) z) (J ah (O F) aj)))/\a.cell? ⟨V,i*9,I⟩=some (.string dt)/\a.cell? ⟨V,i*9+1,I⟩=some (vN du)/\a.cell? ⟨V,i*9+2,I⟩=some (J dv dw dx)/\a.cell? ⟨V,i*9+3,I⟩=some (J dy dA dB)/\a.cell? ⟨V,i*9+4,I⟩=some (J dD (O dF) dE)/\a.cell? ⟨V,i*9+5,I⟩=some (vN dG)/\a.cell? ⟨V,i*9+6,I⟩=some (vN dH)/\a.cell? ⟨V,i*9+7,I⟩=some (J dI dJ dK)/\a.cell? ⟨V,i*9+8,I⟩=some (J dM dN dO)):=λ{a} c=>g6.out (bV.below c).kx ((c.block _ sQ).trans (al1 wr _).2) (bV.below c).wX;clear g0 er fe g1 gW gX gY gZ fb gS ds;go_upto_region 28 with(go_at_call 35;refine(bN bV.s.mk').mono ?_;rintro aZ aC ⟨rfl,o⟩;replace o:=o.symm;subst o)
                clear cY ce cf cZ c0 b5 bx aZ c1 cL cM bI;go_region_held3 (λa=>(Ce a (E (U wr)) (ae 8 ak (O a4:Int) ao ap (J ab (O a3) ac)))/\(Ce a (E (U d)) (df r mod pos B (J W (O G) X) s t (J u (O L) x) (J y (O N) z) (J ah (O F) aj)))/\a.cell? ⟨V,i*9,I⟩=some (.string dt)/\a.cell? ⟨V,i*9+1,I⟩=some (vN du)/\a.cell? ⟨V,i*9+2,I⟩=some (J dv dw dx)/\a.cell? ⟨V,i*9+3,I⟩=some (J dy dA dB)/\a.cell? ⟨V,i*9+4,I⟩=some (J dD (O dF) dE)/\a.cell? ⟨V,i*9+5,I⟩=some (vN dG)/\a.cell? ⟨V,i*9+6,I⟩=some (vN dH)/\a.cell? ⟨V,i*9+7,I⟩=some (J dI dJ dK)/\a.cell? ⟨V,i*9+8,I⟩=some (J dM dN dO)) (first|assumption|exact iM.out ((Below.refl _ _).drew)|exact iN) (first|(go_at_call 78;refine(iI.out ((Below.refl _ _).drew)).mono ?_;rintro j4 cP g7;have iO:=g7.kx;obtain⟨iP,gU,g8,g9,g',j5,ha,hb,rfl,az⟩:=(bV.below ((Below.refl _ _).drew)).method g7 rfl;have iN:=g6.out az.kx ((iO.block _ sQ iL.out).trans (al1 wr _).2) az.wX))
                have cu:cP.heap[E (U d)]? =some (Ob (df r mod pos B (J W (O G) X) s t (J u (O L) x) (J y (O N) z) (J ah (O F) aj)) 71 (0,0)):=az.wX;have ej:=λj=>cell_of_row cP _ j _ 71 (0,0) cu;have hc:E (U d)<E (U cP):=(gE cu).1;have iQ:Hid (∀(ar:Int) (bX:TypeId),∃bR w',(Builtin.append_ #[22,22] bX #[J ah (O F) aj,J (some ⟨E (U cP),0,I⟩) 1 1]).run Tryz.prog (cP.alloc (Ob #[.int .i64 ar] 3))=.ok bR w'/\∃dQ dS iR,bR=J dQ (O F+1) dS/\w'.heap[E (U d)]? =some (Ob (df r mod pos B (J W (O G) X) s t (J u (O L) x) (J y (O N) z) (J ah (O F) aj)) 71 (0,0))/\IL ax mb (E (U w)+1) (E (U d)) {M with ds:=aW} trs ims fns Xd Xi Xf (λb=>(Mu b\/b=E (U w)+1)\/b=E (U d)) H (dL a0 0 B 0 bF bG) (λv=>df r mod pos B (J W (O G) X) s t (J u (O L) x) (J y (O N) z) v) (i+1) (((Z.map (aG (h+3) w)).take i).sum*aM+dP*aM) iR hb g9 g' g8 ha dQ dS (F++[.int .i64 ar]) (w'.setCell ⟨E (U d),9,I⟩ (J dQ (O F+1) dS)) iP gU):=λar bX=>az.push (λ_ _=>rfl) e7.out.1 gO ar (oI gR.out bJ.out) bX Q;go_wp2_with (at_builtin;refine bC 22 (v:=J ah (O F) aj) (xv:=J (aS (E (U cP))) 1 1) rQ rQ rQ rQ (iQ.out _ _) ?_;rintro bR ff ⟨dQ,dS,iS,rfl,fg,bL⟩;clear ej hc;have ej:=λj=>cell_of_row ff _ j _ 71 (0,0) fg;have hc:E (U d)<E (U ff):=(gE fg).1;have j6:=λj=>frozen_of_row ff (E (U d)) j _ 71 fg)
                go_roundg (O Z - (i+1))
                case measure=>rw[iy.out];omega
                case rel=>exact⟨i+1,_,_,iS,hb,g9,g',g8,ha,dQ,dS,_,Q,by go_num,e',iA _,by rw[aT fa,Nat.add_mul];exact bL,λ_=>e1.out⟩
               ·have cm:(av==0)=false:=sU b0;go_wp2_with (go_at_call 35;refine(bN bV.s.mk').mono ?_;rintro aZ aC ⟨rfl,o⟩;replace o:=o.symm;subst o)
                go_end0;exact iu.out bV d6 b0
             ·have iz:¬(i:Int)<(O Z:Int):=oM;have j7:¬(i:Int)<0:=oM;have hd:Hid (af (λb=>¬bc b) (Gd (O aW)) (max bj (bO+1)) wr (ai s t (J u (O L) x) (J y (O N) z)).toList):=af.le (af.frame A.same A.kx.size _ _ (af.weaken A.wk _ _ (bb.out (KX.refl (λb=>(Mu b\/b=E (U w)+1)\/b=E (U d)) (E (U ax)) ax)).1.2.2.1)) _ (Nat.le_max_right _ _);have cu:wr.heap[E (U d)]? =some (Ob (df r mod pos B (J W (O G) X) s t (J u (O L) x) (J y (O N) z) (J ah (O F) aj)) 71 (0,0)):=A.wX;have hf:E (U d)<E (U wr):=(gE cu).1;have iT:E (U d)≠mb:=aI cu A.s.mk' dC
              have j8:wr.cell? ⟨mb,3,I⟩=some (J ivo (O ims) ivc):=by
               rw[A.s.mk'.cell 3];show some M.iv=_;rw[cS]
              have j9:=A.s.mk'.lt;have j':mb<E (U wr)+1:=oM;obtain⟨cv,dT⟩:∃cv:MK,cv=({{M with ds:=aW} with fv:=J bo (O bd) bp}.bt av aV):=⟨_,Q⟩;have iU:cv.iv=J ivo (O ims) ivc:=by rw[dT];exact cS
              have iV:O cv.ds=O aW:=by rw[dT]
              have iW:cv.iv.ownBlock≠some (E (U d)):=by rw[dT];exact gO
              have hg:MS wr.drew mb cv trs ims bd Xd Xi bn bc (max bj (bO+1)):=by
               rw[dT];exact(A.s.le (Nat.le_max_left bj (bO+1))).below ((Below.refl (E (U wr)) wr).drew)
              have hh:=λbX=>hg.yM (fo:=ivo) (fc:=ivc) iU (cs:=(df r mod pos B (J W (O G) X) s t (J u (O L) x) (J y (O N) z) (J ah (O F) aj))) (Y:=aM) (by rw[iV];exact⟨r,mod,pos,B,W,O G,X,s,t,u,O L,x,y,O N,z,ah,O F,aj,Q,af.frame (w:=wr) (w':=wr.drew) (λ_ _ _=>rfl) (lR _) _ _ hd.out,λf=>by rw[aJ (w:=wr) (w':=wr.drew) (λ_ _ _=>rfl) (lR _) _ _ hd.out];exact(bb.out A.kx).1.2.2.2 f⟩) Q (by intro gP cQ;simp at cQ;repeat(first|(subst cQ;rfl)|(rcases cQ with cQ|cQ;(subst cQ;rfl)))) oM bX (ad:=E (U wr)) Q
              have es:Hid (O bd+2<=O fns+O P/\(av=0->O bd+2=O fns+O P)/\Xi+aM<=Xi+bg/\bn<=Xf+bg*bg):=by
               have aR:=cK.out.2.2 i;have b4:=Nat.mul_le_mul (show((Z.map (aG (h+3) w)).take i).sum<=bg by omega) (show aM<=bg by omega);have cJ:=A.fl;have iv:=bJ.out;have iX:=A.fe;exact⟨oM,λe=>oH (iX e),oM,lT A.xf oM⟩
              have hi:Hid (∀bX:TypeId,∃bR w',(Builtin.append_ #[26,26] bX #[J ivo (O ims) ivc,J (aS (E (U wr))) 1 1]).run Tryz.prog ((wr.alloc (Ob (df r mod pos B (J W (O G) X) s t (J u (O L) x) (J y (O N) z) (J ah (O F) aj)) 71)).drew)=.ok bR w'/\∃b' ca,bR=J b' (O ims+1) ca/\cF w' mb cv/\w'.heap[E (U d)]? =some (Ob (df r mod pos B (J W (O G) X) s t (J u (O L) x) (J y (O N) z) (J ah (O F) aj)) 71 (0,0))/\(w'.setCell ⟨mb,3,I⟩ (J b' (O ims+1) ca)).heap[E (U d)]? =some (Ob (df r mod pos B (J W (O G) X) s t (J u (O L) x) (J y (O N) z) (J ah (O F) aj)) 71 (0,0))/\gF w mb M trs ims fns Xd Xi Xf Mu H (O P) bg (.returned (.tuple #[])) (w'.setCell ⟨mb,3,I⟩ (J b' (O ims+1) ca))):=λbX=>by
               obtain⟨bR,fh,iY,b',ca,iZ,i0,bZ,ka,kb,i1,i2,i3,kd,hj,i4⟩:=hh bX;have cR:=(i4 (E (U d)) hf iW).trans cu;refine⟨bR,fh,iY,b',ca,i0,bZ,cR,(Below.heap_setCell _ ⟨mb,3,I⟩ _ _ iT).trans cR,?_⟩;refine⟨av,aV,aW,bd,bo,bp,ims++[(df r mod pos B (J W (O G) X) s t (J u (O L) x) (J y (O N) z) (J ah (O F) aj)).toList],b',ca,iZ,max bj (bO+1),Xi+aM,bn,Q,gL.out,?_,(bb.out A.kx).1.1.1.drew.trans (i1.mono (λb p c=>(eq.out A).1 b p c) (bb.out A.kx).1.1.1.size),λb c=>i2 b (A.m1 b (.inl (.inl c))),λb p c=>(eq.out A).1 b p (i3 b (Nat.lt_of_lt_of_le p (bb.out A.kx).1.1.1.size) c),A.hf,lT A.hH (Nat.le_max_left _ _),sQ,es.out.1,es.out.2.1,es.out.2.2.1,es.out.2.2.2⟩;have i5:O (ims++[(df r mod pos B (J W (O G) X) s t (J u (O L) x) (J y (O N) z) (J ah (O F) aj)).toList])=O ims+1:=sQ;rw[i5];rw[dT] at hj;exact hj
              clear hh hg;have dU:Hid (∀{bT:World},bT.heap[E (U d)]? =some (Ob (df r mod pos B (J W (O G) X) s t (J u (O L) x) (J y (O N) z) (J ah (O F) aj)) 71 (0,0))->(Ce bT (E (U d)) (df r mod pos B (J W (O G) X) s t (J u (O L) x) (J y (O N) z) (J ah (O F) aj)))):=λ{bT} aR=>λj=>cell_of_row bT _ j _ 71 (0,0) aR;have KB:Hid (∀{bT:World},Below (E (U wr)) wr bT->(Ce bT (E (U d)) (df r mod pos B (J W (O G) X) s t (J u (O L) x) (J y (O N) z) (J ah (O F) aj)))):=λ{bT} c=>dU.out ((c.block _ hf).trans cu);go_upto_region 31 with fail
              refine wp_region_noPanic ?_;refine wp_region_held_drew (S:=(λbT=>(Ce bT (E (U d)) (df r mod pos B (J W (O G) X) s t (J u (O L) x) (J y (O N) z) (J ah (O F) aj))))) kQ ?_ (λhHeld=>?_)
              ·(try dsimp only)
               (first|assumption|exact KB.out ((Below.refl _ _).drew)|exact KB.out ((al1 _ _).1.drew)|exact KS10|exact KS11)
              refine aK 0 ?_;refine aK 1 ?_;refine aK 2 ?_;refine aK 3 ?_;refine aK 4 ?_;refine aK 6 ?_;refine pU 5 7 (λK hK=>?_) (λK hK=>?_)
              ·go_simp;refine dV hK ?_;clear hK K hHeld;intro hHeld;refine eJ 7 (λK hK=>?_);go_simp;refine dV hK ?_;clear hK K hHeld;intro hHeld;refine eJ 8 (λK hK=>?_)
               (refine bf 26 (v:=J ivo (O ims) ivc) (xv:=J (aS (E (U wr))) 1 1) rQ rQ rQ rQ (hi.out _) ?_;rintro bR fh ⟨b',ca,rfl,bZ,cR,fi,fj⟩;have KS10:=dU.out cR;have KS11:=dU.out fi;have i6:=bZ.cell;have eO:=bZ.fz;have i7:=bZ.lt)
               refine dV hK ?_;clear hK K hHeld;intro hHeld;refine aK 9 ?_;refine aK 10 ?_;refine aK 11 ?_;refine eJ 12 (λK hK=>?_);go_simp;refine dV hK ?_;clear hK K hHeld;intro hHeld;refine wpAnyH_done kQ ?_ _;refine NoPanic.normal ?_;go_wp2_with fail;go_end0;exact fj
              ·go_simp;refine dV hK ?_;clear hK K hHeld;intro hHeld;refine eJ 5 (λK hK=>?_);go_simp;refine dV hK ?_;clear hK K hHeld;intro hHeld;refine eJ 8 (λK hK=>?_)
               (refine bf 26 (v:=J ivo (O ims) ivc) (xv:=J (aS (E (U wr))) 1 1) rQ rQ rQ rQ (hi.out _) ?_;rintro bR fh ⟨b',ca,rfl,bZ,cR,fi,fj⟩;have KS10:=dU.out cR;have KS11:=dU.out fi;have i6:=bZ.cell;have eO:=bZ.fz;have i7:=bZ.lt)
               refine dV hK ?_;clear hK K hHeld;intro hHeld;refine aK 9 ?_;refine aK 10 ?_;refine aK 11 ?_;refine eJ 12 (λK hK=>?_);go_simp;refine dV hK ?_;clear hK K hHeld;intro hHeld;refine wpAnyH_done kQ ?_ _;refine NoPanic.normal ?_;go_wp2_with fail;go_end0;exact fj
       ·have cm:(gh==0)=false:=sU eS;go_wp2_with (go_at_call 35;refine(bN dl.s.mk').mono ?_;rintro aZ aC ⟨rfl,o⟩;replace o:=o.symm;subst o)
        go_end0;exact cl.out dl (lR _) eS
      ·have cm:(d7==0)=false:=sU eM;go_wp2_with (go_at_call 35;refine(bN aq.s.mk').mono ?_;rintro aZ aC ⟨rfl,o⟩;replace o:=o.symm;subst o)
       go_end0;exact cl.out aq (lR _) eM
    ·have ke:(f1==2)=false:=sU f4
     go_wp2_with (first
      |(go_at_call 45;refine(bY aq.s.mk' _ _).mono ?_;rintro bx dc ⟨⟨a7,b8,rfl,a8,a1,bB⟩,bD⟩;have a2:=aq.no a1 a8 bB;have ba:a7≠0:=(by obtain⟨dd,de,dg,bE⟩:=bD dC;have:=cF.inj a8 bE;simp at this;omega);have cm:(a7==0)=false:=(sU ba))
      |(go_at_call 35;refine(bN a2.s.mk').mono ?_;rintro aZ aC ⟨rfl,o⟩;replace o:=o.symm;subst o))
     go_end0;exact cl.out a2 (lR _) ba
  ·have kf:(e==0)=false:=sU eL
   go_wp2_with (first
    |(go_at_call 45;refine(bY aq.s.mk' _ _).mono ?_;rintro bx dc ⟨⟨a7,b8,rfl,a8,a1,bB⟩,bD⟩;have a2:=aq.no a1 a8 bB;have ba:a7≠0:=(by obtain⟨dd,de,dg,bE⟩:=bD eL;have:=cF.inj a8 bE;simp at this;omega);have cm:(a7==0)=false:=(sU ba))
    |(go_at_call 35;refine(bN a2.s.mk').mono ?_;rintro aZ aC ⟨rfl,o⟩;replace o:=o.symm;subst o))
   go_end0;exact cl.out a2 (lR _) ba
end
end Go.Proofs.YtcnnibahjmekdaaGreat
