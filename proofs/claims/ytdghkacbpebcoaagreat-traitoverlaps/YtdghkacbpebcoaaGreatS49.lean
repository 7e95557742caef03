import Derived.Test.YtdghkacbpebcoaaGreatS46
import Derived.Test.YtdghkacbpebcoaaGreatS48
namespace Go.Proofs.YtdghkacbpebcoaaGreat
open Go.RowKit
open Value renaming slice→J
open List renaming length→O
open Option renaming none→I
open World renaming heap→U
open _root_.Array renaming size→E
open Obj renaming cells→Ob
set_option linter.all false
set_option maxRecDepth 100000
set_option maxHeartbeats 0
section
variable{M:MK} {H Xd Xf Xi fc ivc kl mb:Nat} {Mu:Nat->Prop} {fo ivo:OA} {fns au trs:VV} {w:World}
def gF (w:World) (mb:Nat) (M:MK) (trs au fns:VV) (Xd Xi Xf:Nat) (Mu:Nat->Prop) (H kl N:Nat) (e:Ending) (w':World):Prop:=
 ∃(k a:Int) (ds:List Dd) (fns':VV) (fo:OA) (fc:Nat) (ims':VV) (io:OA) (ic:Nat) (Mu':Nat->Prop) (H' Xi' Xf':Nat),e=.returned (.tuple #[])/\O ds=O M.ds/\MS w' mb ({M with ds:=ds,fv:=J fo (O fns') fc,iv:=J io (O ims') ic}.bu k a) trs ims' fns' Xd Xi' Xf' Mu' H'/\KX Mu (E (U w)) w w'/\(∀b,Mu b->Mu' b)/\(∀b,b<E (U w)->Mu' b->Mu b)/\(M.fk≠0->k=M.fk)/\H<=H'/\O ims'<=O au+1/\O fns'+2<=O fns+kl/\(k=0->O fns'+2=O fns+kl)/\Xi'<=Xi+N/\Xf'<=Xf+N*N
theorem IE.stop {e wr:World} {c:Nat->Prop} {d f i:Nat} {k a:Int} {K:CK} {how next one fk fa:Int} (q:IE e mb f M trs au fns Xd Xi Xf c H wr k a K how next one fk fa) (j:KX Mu (E (U w)) w wr) (l:∀b,Mu b->c b) (m:∀b,b<E (U w)->c b->Mu b) (n:M.fv=J fo (O fns) fc) (o:M.iv=J ivo (O au) ivc) (p:d<=H) (t:2<=kl) (r:k≠0):gF w mb M trs au fns Xd Xi Xf Mu d kl i (.returned (.tuple #[])) wr:=
 ⟨k,a,M.ds,fns,fo,fc,au,ivo,ivc,c,H,Xi,Xf,Q,Q,by rw[<-n,<-o];exact q.s,j,l,m,q.hf,p,oM,oM,λs=>absurd s r,oM,oM⟩
theorem wE {h:Nat} (hS:MS w mb M trs au fns Xd Xi Xf Mu H) (fl:M.fv=J fo (O fns) fc) (cU:M.iv=J ivo (O au) ivc) {mod:Nat} (dY:mod<O M.ms) {B0:Nat} (dZ:∀b,Mu b->B0<=b) (d0:B0<=E (U w)) {pos aY m:Int} {name:ByteArray} {ko:OA} {kc:Nat} (cA:isNode (λb=>b<B0) True (h+4) w (ae 7 pos aY m name (J ko kl kc)).toList) (cB:aG (h+4) w (ae 7 pos aY m name (J ko kl kc)).toList<=96100) (i9:O fns+kl<=199999) (i':O au<=199999) (ev:Int):
 Calls Tryz.prog 50 #[.pointer (some ⟨mb,0,I⟩),.int .i64 mod,.agg (ae 7 pos aY m name (J ko kl kc)),.int .i64 ev] w (gF w mb M trs au fns Xd Xi Xf Mu H kl (aG (h+4) w (ae 7 pos aY m name (J ko kl kc)).toList)):=by
 have ew:B0<=mb:=dZ mb hS.dG;obtain⟨P,rfl,cC,d1,bK,ex,hl,fm,ja,-⟩:=cA.kids;obtain⟨fn,hm,jb,fp,cV,fq⟩:=bK.impl Q;have fr:=fn.nt;have jc:=cC.len.2;obtain⟨fs,jd,cD,ft,ey⟩:=List.map_eq_cons_iff.1 fp;obtain⟨fu,Z,hn,fv,fw⟩:=List.map_eq_cons_iff.1 ey;subst hn;have d2:P[0]? =some fs:=by rw[cD];rfl
 have d3:P[1]? =some fu:=by rw[cD];rfl
 have fx:O P=O Z+2:=by rw[cD];rfl
 obtain⟨bf,cW⟩:∃bf,bf=aG (h+4) w (ae 7 pos aY m name (J ko (O P) kc)).toList:=⟨_,Q⟩;rw[<-cW] at cB⊢;obtain⟨g,ho⟩:=fm 0 oM;obtain rfl:ko=some ⟨g,0,I⟩:=ho;have b3:=d1 fs (mG d2);have cE:=d1 fu (mG d3);obtain⟨fy,cF,ce,cG,cH,cf,hp,cI,rfl,-⟩:=isNode.cells b3;obtain⟨bk,br,bl,bs,bt,bu,bm,bv,rfl,-⟩:=isNode.cells cE
 have hr:fy=9:=by
  have e:fJ fy ce hp=9:=ft;unfold fJ at e;split at e
  ·exact absurd e dC
  ·split at e
   ·exact absurd e dC
   ·exact e
 subst hr;have hs:cx bk:=l9 (n:=bl) (l:=bm) (by have e:fJ bk bl bm=hm:=fv;rw[e];exact cV);obtain⟨b4,rfl,ez⟩:=vr b3;have bN:Hid (O P=O Z+2):=fx;obtain⟨cJ,cX,b5⟩:=dW w (Ob (ae 7 pos aY m name (J (aS g) (O P) kc)) 48) (Ob (dy ({mb:=mb,mod:=mod,aD:=I,cJ:=0,ba:=[],bZ:=I,tcp:=0,bt:=[],bO:=false,sk:=0,sn:=0,iJ:=I,iK:=0,iL:=0,iM:=I,iN:=0,iO:=0}:CK) 0 0 0 0 0) 114);obtain⟨aa,d4⟩:∃aa,aa=((w.alloc (Ob (ae 7 pos aY m name (J (aS g) (O P) kc)) 48)).alloc (Ob (dy ({mb:=mb,mod:=mod,aD:=I,cJ:=0,ba:=[],bZ:=I,tcp:=0,bt:=[],bO:=false,sk:=0,sn:=0,iJ:=I,iK:=0,iL:=0,iM:=I,iN:=0,iO:=0}:CK) 0 0 0 0 0) 114)):=⟨_,Q⟩;have fz:E (U aa)=E (U w)+2:=by rw[d4];simp
 rw[<-d4] at cJ cX b5;have cY:=hS.mlt;have d5:IE aa mb (E (U w)+1) M trs au fns Xd Xi Xf (λb=>Mu b\/b=E (U w)+1) H aa M.fk M.fa ({mb:=mb,mod:=mod,aD:=I,cJ:=0,ba:=[],bZ:=I,tcp:=0,bt:=[],bO:=false,sk:=0,sn:=0,iJ:=I,iK:=0,iL:=0,iM:=I,iN:=0,iO:=0}:CK) 0 0 0 0 0:=⟨hS.grow cJ (λb c=>.inl c) (λb c=>by rcases c with c|c;(have:=cY b c;omega);omega) (λb p c=>by rcases c with c|c;exact c;omega),KX.refl _ _ _,b5,.inr Q,λ_=>rfl⟩
 have k:Hid (∀{a:World},KX (λb=>Mu b\/b=E (U w)+1) (E (U aa)) aa a->KX Mu (E (U w)) w a/\aq (λb=>b<B0) w a/\a.heap[E (U w)]? =some (Ob (ae 7 pos aY m name (J (aS g) (O P) kc)) 48 (0,0))):=λ{a} q=>by
  have d6:KX Mu (E (U w)) w a:=(KX.al cJ).trans (q.mono (λb p e=>by rcases e with e|e;exact e;omega) oM);refine⟨d6,λb c p=>d6.block b p (λC=>oH (dZ b C)),(q.block _ oM (λC=>?_)).trans cX⟩;rcases C with C|C
  ·have:=cY _ C;omega
  ·omega
 have R:Hid (∀{a:World},aq (λb=>b<B0) w a->(∀aQ,aQ<11->a.cell? ⟨g,aQ,I⟩=(ae 9 cF ce cG cH (J cf (O b4) cI)).toList[aQ]?)/\(∀aQ,aQ<11->a.cell? ⟨g,11+aQ,I⟩=(ae bk br bl bs bt (J bu bm bv)).toList[aQ]?)/\isNode (λb=>b<B0) True (h+3) a (ae 9 cF ce cG cH (J cf (O b4) cI)).toList/\isNode (λb=>b<B0) True (h+3) a (ae bk br bl bs bt (J bu bm bv)).toList/\GK B0 a cf b4):=λ{a} a'=>by
  obtain⟨b6,j,e,fA,cK⟩:=(cC.frame a' d0).nth d2;obtain⟨rfl,rfl⟩:b6=g/\j=0:=sU e.symm;obtain⟨ht,j,e,-,hu⟩:=(cC.frame a' d0).nth d3;obtain⟨rfl,rfl⟩:ht=b6/\j=0:=sU e.symm;refine⟨λaQ cZ=>?_,λaQ cZ=>?_,isNode.frame a' _ _ b3,isNode.frame a' _ _ cE,ez.frame a' d0⟩
  ·have:=cK aQ cZ;simpa using this
  ·have:=hu aQ cZ;simpa using this
 have hv:Hid (∀{a:World},aq (λb=>b<B0) w a->aG (h+3) a (ae bk br bl bs bt (J bu bm bv)).toList<=96100):=λ{a} a'=>by
  rw[aT a' _ _ cE];have aR:=u5 (List.mem_map_of_mem (f:=aG (h+3) w) (mG d3));have b7:=ex;have cL:=lT (Nat.le_of_eq (b7.symm.trans cW.symm)) cB;omega
 obtain⟨aK,d7⟩:∃aK,aK=aG (h+3) w (ae bk br bl bs bt (J bu bm bv)).toList:=⟨_,Q⟩
 have cM:Hid ((∀{a:World},aq (λb=>b<B0) w a->aG (h+3) a (ae bk br bl bs bt (J bu bm bv)).toList=aK)/\1<=aK/\∀i,((Z.map (aG (h+3) w)).take i).sum+aK<=bf):=⟨λ{a} a'=>by rw[aT a' _ _ cE,d7],by
  obtain⟨hw,-,-,-,-,cg,-⟩:=cE.kids;have ch:aG (h+3) w (ae bk br bl bs bt (J bu bm bv)).toList=1+(hw.map (aG (h+2) w)).sum:=cg;rw[d7,ch];omega,λi=>by
  have aR:=bL (Z.map (aG (h+3) w)) i;have b7:bf=1+(P.map (aG (h+3) w)).sum:=cW.trans ex
  have cL:(P.map (aG (h+3) w)).sum=aG (h+3) w (ae 9 cF ce cG cH (J cf (O b4) cI)).toList+(aG (h+3) w (ae bk br bl bs bt (J bu bm bv)).toList+(Z.map (aG (h+3) w)).sum):=by
   rw[cD,List.map_cons,List.map_cons,List.sum_cons,List.sum_cons]
  rw[d7];omega⟩
 have hx:aK<=96100:=lT (Nat.le_add_left _ _) (lT (cM.out.2.2 0) cB)
 have hy:Hid (∀i,i<O Z->∃(aj bh al:Int) (ao:ByteArray) (ab:OA) (bi ac:Nat),(Z.map (aG (h+3) w))[i]? =some (aG (h+3) w (ae 8 aj bh al ao (J ab bi ac)).toList)/\(bi:Int)=bh+3/\∀a:World,aq (λb=>b<B0) w a->(∀aQ,aQ<11->a.cell? ⟨g,22+i*11+aQ,I⟩=(ae 8 aj bh al ao (J ab bi ac)).toList[aQ]?)/\isNode (λb=>b<B0) True (h+3) a (ae 8 aj bh al ao (J ab bi ac)).toList/\aG (h+3) a (ae 8 aj bh al ao (J ab bi ac)).toList=aG (h+3) w (ae 8 aj bh al ao (J ab bi ac)).toList):=λi d8=>by
  obtain⟨ar,aF⟩:∃ar,Z[i]? =some ar:=⟨_,gG d8⟩;have cV:P[i+2]? =some ar:=by rw[cD];exact aF
  have eB:=d1 ar (mG cV);obtain⟨fB,aj,bh,al,ao,ab,bi,ac,rfl,-⟩:=isNode.cells eB;have p:fJ fB bh bi=108:=fq _ (by rw[<-fw];exact List.mem_map_of_mem (f:=az) (mG aF))
  obtain⟨rfl,eC⟩:fB=8/\(bi:Int)=bh+3:=by
   unfold fJ at p;split at p
   ·assumption
   ·split at p
    ·exact absurd p dC
    ·exact absurd p (by assumption)
  refine⟨aj,bh,al,ao,ab,bi,ac,by rw[List.getElem?_map,aF];rfl,eC,λa a'=>⟨λaQ cZ=>?_,isNode.frame a' _ _ eB,aT a' _ _ eB _⟩⟩;obtain⟨b6,j,e,-,cK⟩:=(cC.frame a' d0).nth cV;obtain⟨rfl,rfl⟩:b6=g/\j=0:=sU e.symm;have:=cK aQ cZ;rw[show 0+(i+2)*11+aQ=22+i*11+aQ by omega] at this;exact this
 have je:g<B0:=by
  obtain⟨b6,j,e,fA,-⟩:=cC.nth d2;obtain⟨rfl,rfl⟩:b6=g/\j=0:=sU e.symm;exact fA
 have bO:Hid (MS w mb M trs au fns Xd Xi Xf Mu H/\(∀b,Mu b->B0<=b)/\(∀b,Mu b->b<E (U w))/\NT name/\isNode (λb=>b<B0) True (h+4) w (ae 7 pos aY m name (J (some ⟨g,0,I⟩) (O P) kc)).toList/\bf=aG (h+4) w (ae 7 pos aY m name (J (some ⟨g,0,I⟩) (O P) kc)).toList):=⟨hS,dZ,cY,fr hl,cA,cW⟩;have jf:=ez.len;have jg:(1:Int)<(O P:Int):=oM;have jh:(0:Int)<(O P:Int):=oM;have fC:mb≠E (U w)+1:=oH (cY mb hS.dG);clear hS dZ d7 cC d1 bK ex fm fp ey ft fv fq fw fn fr cA cW b3 cE ez cD d2 d3 cV cJ cX b5 cY fx;have aN:=λj=>cell_of_row aa _ j _ 48 (0,0) (k.out (KX.refl _ _ _)).2.2;have aA:E (U w)<E (U aa):=oM;have c0:aa.cell? ⟨g,0,I⟩=some (vN 9):=(R.out (k.out (KX.refl _ _ _)).2.1).1 0 dC;have cg:aa.cell? ⟨g,1,I⟩=some (vN cF):=(R.out (k.out (KX.refl _ _ _)).2.1).1 1 dC;have ch:aa.cell? ⟨g,2,I⟩=some (vN ce):=(R.out (k.out (KX.refl _ _ _)).2.1).1 2 dC;have c1:aa.cell? ⟨g,3,I⟩=some (vN cG):=(R.out (k.out (KX.refl _ _ _)).2.1).1 3 dC;have c2:aa.cell? ⟨g,4,I⟩=some (.string cH):=(R.out (k.out (KX.refl _ _ _)).2.1).1 4 dC;have b8:aa.cell? ⟨g,5,I⟩=some (J cf (O b4) cI):=(R.out (k.out (KX.refl _ _ _)).2.1).1 5 dC;have bw:aa.cell? ⟨g,6,I⟩=some (vN 0):=(R.out (k.out (KX.refl _ _ _)).2.1).1 6 dC;have aZ:aa.cell? ⟨g,7,I⟩=some (vN 0):=(R.out (k.out (KX.refl _ _ _)).2.1).1 7 dC;have c3:aa.cell? ⟨g,8,I⟩=some aH:=(R.out (k.out (KX.refl _ _ _)).2.1).1 8 dC;have cN:aa.cell? ⟨g,9,I⟩=some aH:=(R.out (k.out (KX.refl _ _ _)).2.1).1 9 dC;have cO:aa.cell? ⟨g,10,I⟩=some aH:=(R.out (k.out (KX.refl _ _ _)).2.1).1 10 dC;have bK:g<E (U aa):=oM;go_enter Tryz.func50,Tryz.ntmps50
 go_upto_region 2 with fail
 generalize hq:World.alloc (World.alloc w _) _=hz;obtain rfl:aa=hz:=d4.trans hq;clear d4 hq;go_upto_region 3 with(go_at_call 43;refine(pz (h:=h+2) (K:=({mb:=mb,mod:=mod,aD:=I,cJ:=0,ba:=[],bZ:=I,tcp:=0,bt:=[],bO:=false,sk:=0,sn:=0,iJ:=I,iK:=0,iL:=0,iM:=I,iN:=0,iO:=0}:CK)) d5.s.mk' d5.cv fC oM ew (R.out (k.out d5.kx).2.1).2.2.1).mono ?_;rintro e ax ⟨ci,cj,a5,ck,cl,a6,fD,b5,rfl,fE,fF,fG,eD,eE,eF,-,fH⟩)
 have aB:=d5.nQ eD fF fG fH;have ji:=eD.size;have eG:O a5<=30000:=oM;have eH:O a6<=30000:=oM
 have eI:Hid (∀{a:World},KX (λb=>Mu b\/b=E (U w)+1) (E (U ax)) ax a->a.ownsRow 0 9 1 (J ci (O a5) cj) (O a5) (bX a5)/\a.ownsRow 0 9 1 (J ck (O a6) cl) (O a6) (bX a6)):=λ{a} q=>by
  have c4:∀(v:Value) (n:Nat) (F:List Value),ax.ownsRow (E (U aa)) 9 1 v n F->a.ownsRow 0 9 1 v n F:=λv n F c5=>ah (gy c5) (λb c p=>q.block b p (λC=>by
   have aR:=(c5.lt b c).1;rcases C with C|C
   ·have:=bO.out.2.2.1 b C;omega
   ·omega))
  exact⟨c4 _ _ _ eE,c4 _ _ _ eF⟩
 have fK:Hid ((∀b,(Value.slice ci (O a5) cj).ownBlock=some b->E (U aa)<=b/\b<E (U ax))/\∀b,(Value.slice ck (O a6) cl).ownBlock=some b->E (U aa)<=b/\b<E (U ax)):=⟨λb c=>eE.lt b c,λb c=>eF.lt b c⟩;have jj:Hid (O a5+O a6=O b4):=fE;obtain⟨a0,c6⟩:∃a0,a0=({mb:=mb,mod:=mod,aD:=I,cJ:=0,ba:=[],bZ:=I,tcp:=0,bt:=[],bO:=false,sk:=0,sn:=0,iJ:=I,iK:=0,iL:=0,iM:=I,iN:=0,iO:=0}:CK).nm ci cj a5 ck cl a6:=⟨_,Q⟩;have cm:=dz (S:=λ_=>False) (D:=O M.ds) (w:=ax) (kind:=0) (n:=0) ⟨λe=>absurd e dC,dC,dC⟩
 have fL:Cx ax (E (U w)+1) a0 (M.bu fD b5) (O trs) (λ_=>False) 1 1:=by
  rw[c6];exact⟨(eI.out (KX.refl _ _ _)).1,eG,(eI.out (KX.refl _ _ _)).2,eH,aB.s.pi,dY,cm.1,λ_ aF=>aF.elim,cm.2,lR _⟩
 have fM:Hid (Calls Tryz.prog 49 #[.pointer (aS mb),.agg (ae 9 cF ce cG cH (J cf (O b4) cI)),.pointer (aS (E (U w)+1)),.bool false] ax (mW ax mb (E (U w)+1) (M.bu fD b5) a0 0)):=oe fL (by rw[c6];exact aB.cv) aB.s.mk' fC (by rw[c6]) oM ew (λ_ aF=>aF.elim) (R.out (k.out aB.kx).2.1).2.2.2.2 false;clear fE aN aA c0 cg ch c1 c2 b8 bw aZ c3 cN cO bK fL cm fF fG fH eD eE eF;have aN:=λj=>cell_of_row ax _ j _ 48 (0,0) (k.out aB.kx).2.2;have aA:E (U w)<E (U ax):=oM;have c0:ax.cell? ⟨g,0,I⟩=some (vN 9):=(R.out (k.out aB.kx).2.1).1 0 dC;have cg:ax.cell? ⟨g,1,I⟩=some (vN cF):=(R.out (k.out aB.kx).2.1).1 1 dC;have ch:ax.cell? ⟨g,2,I⟩=some (vN ce):=(R.out (k.out aB.kx).2.1).1 2 dC;have c1:ax.cell? ⟨g,3,I⟩=some (vN cG):=(R.out (k.out aB.kx).2.1).1 3 dC;have c2:ax.cell? ⟨g,4,I⟩=some (.string cH):=(R.out (k.out aB.kx).2.1).1 4 dC;have b8:ax.cell? ⟨g,5,I⟩=some (J cf (O b4) cI):=(R.out (k.out aB.kx).2.1).1 5 dC;have bw:ax.cell? ⟨g,6,I⟩=some (vN 0):=(R.out (k.out aB.kx).2.1).1 6 dC;have aZ:ax.cell? ⟨g,7,I⟩=some (vN 0):=(R.out (k.out aB.kx).2.1).1 7 dC;have c3:ax.cell? ⟨g,8,I⟩=some aH:=(R.out (k.out aB.kx).2.1).1 8 dC;have cN:ax.cell? ⟨g,9,I⟩=some aH:=(R.out (k.out aB.kx).2.1).1 9 dC;have cO:ax.cell? ⟨g,10,I⟩=some aH:=(R.out (k.out aB.kx).2.1).1 10 dC;have bK:g<E (U ax):=oM;go_upto_region 4 with(go_at_call 49;refine fM.out.mono ?_;rintro e aC ⟨jk,hA,hB,hC,d9,c7,W,X,G,jl,on,jm,rfl,fN,fO,fP,d',fQ,hD,fR⟩)
 have bP:=aB.nQ d' fN fO fP;have hE:=d'.size;have hG:Hid (KX (λb=>Mu b\/b=E (U w)+1) (E (U ax)) ax aC):=d'.mono (λb _ e=>by rcases e with rfl|rfl;exact .inr rfl;exact .inl bO.out.1.dG) (lR _)
 have fS:Hid (∀{a:World},KX (λb=>Mu b\/b=E (U w)+1) (E (U aC)) aC a->ro a (λb=>¬(Mu b\/b=E (U w)+1)) 2 (J W (O G) X) (O G) G.flatten):=λ{a} q=>(fQ.weaken (λb c _ C=>by
  rcases C with C|C
  ·have:=bO.out.2.2.1 b C;omega
  ·omega)).frame (λb c p=>q.block b p c) q.size
 clear aN aA c0 cg ch c1 c2 b8 bw aZ c3 cN cO bK fN fO fP d' fQ fM;have cn:Hid (∀{a:World} {eJ:Nat} {av aU:Int} {K:CK} {how next one fU fV:Int},IE aa mb (E (U w)+1) M trs au fns Xd Xi Xf (λb=>Mu b\/b=E (U w)+1) eJ a av aU K how next one fU fV->H<=eJ->av≠0->gF w mb M trs au fns Xd Xi Xf Mu H (O P) bf (.returned (.tuple #[])) a):=λ{a eJ av aU K how next one fU fV} A hH eK=>A.stop (k.out A.kx).1 (λb c=>.inl c) (λb p c=>by rcases c with c|c;exact c;omega) fl cU hH (oH bN.out) eK;have aN:=λj=>cell_of_row aC _ j _ 48 (0,0) (k.out bP.kx).2.2;have aA:E (U w)<E (U aC):=oM;go_cut [11,12,13] (λea bz b9 aD=>∃(bA:Nat) (eL:ByteArray) (e:Int) (eb:Nm),ea=.pointer (aS bA)/\bz=.string eL/\b9=vN e/\Below (E (U aC)) aC aD/\bx aD bA (dF eb)/\E (U aC)<=bA/\NQ (O M.ds) (O trs) eb)
 case first=>
  clear aN aA;have c8:Hid (∀{a:World},Below (E (U aC)) aC a->Below (E (U aC)) aC a/\(Ce a mb (jM (M.bu d9 c7)))/\(Ce a (E (U w)) (ae 7 pos aY m name (J (aS g) (O P) kc)))):=λ{a} c=>⟨c,(bP.s.mk'.below c).cell,λj=>cell_of_row a _ j _ 48 (0,0) ((c.block _ oM).trans (k.out bP.kx).2.2)⟩
  go_region_held3 (λa=>Below (E (U aC)) aC a/\(Ce a mb (jM (M.bu d9 c7)))/\(Ce a (E (U w)) (ae 7 pos aY m name (J (aS g) (O P) kc))))
   (first|assumption|exact c8.out ((Below.refl _ _).drew)|exact c8.out ((al1 _ _).1.drew)|exact c8.out b'|exact c8.out (b'.alloc b'.size _)|exact c8.out (Below.cM b' sQ _ _ _ _))
   (first
    |(go_at_call 69;have c9:=(‹Below (E (U aC)) aC _/\_›).1;refine(pA (D:=O M.ds) (T:=O trs) bP.s.pi.bj.1 bP.s.pi.bj.2.2 (bP.s.pi.cE.below c9) bP.s.pi.q _ _ _ _ _ _ (i:=mod) dY _ bO.out.2.2.2.1).mono ?_;rintro e fW ⟨fX,fY,b8,rfl,fZ,f0⟩;have b':=c9.trans (f0.mono c9.size);have hI:=b'.size;first|(have ec:bx fW (E (U aC)) (dF gJ):=(f0.block (E (U aC)) sQ).trans (al1 aC _).2;have jn:=ec.cell;have jo:=ec.fz;have jp:=ec.lt)|skip))
  all_goals
   go_wp2_with fail;go_meet
   first
    |exact⟨E (U aC),fY,b8,fX,Q,Q,Q,Below.cM b' sQ _ _ _ _,bx.bQ ec _ _ _ _,lR _,fZ⟩
    |exact⟨E (U fW),fY,b8,fX,Q,Q,Q,b'.alloc b'.size _,(al1 _ _).2,hI,fZ⟩
 case rest=>
  clear aN aA;obtain⟨bA,eL,e,eb,rfl,rfl,rfl,c',ed,ee,f1⟩:=hcut;obtain⟨da,f2,r,db⟩:=eb;have ap:=bP.below c';have f3:=c'.size;have hJ:Hid (∀{a:World},KX (λb=>Mu b\/b=E (U w)+1) (E (U wc)) wc a->ro a (λb=>¬(Mu b\/b=E (U w)+1)) 2 (J W (O G) X) (O G) G.flatten):=λ{a} q=>fS.out ((KX.al c').trans (q.mono (λ_ _ h=>h) f3));have hL:Hid (∀{a:World},KX (λb=>Mu b\/b=E (U w)+1) (E (U wc)) wc a->KX (λb=>Mu b\/b=E (U w)+1) (E (U aC)) aC a):=λ{a} q=>(KX.al c').trans (q.mono (λ_ _ h=>h) f3);have f4:Hid (∀{a:World},KX (λb=>Mu b\/b=E (U w)+1) (E (U wc)) wc a->a.ownsRow 0 9 1 (J ci (O a5) cj) (O a5) (bX a5)/\a.ownsRow 0 9 1 (J ck (O a6) cl) (O a6) (bX a6)):=λ{a} q=>eI.out (hG.out.trans ((hL.out q).mono (λ_ _ h=>h) hE));clear fS c';have aN:=λj=>cell_of_row wc _ j _ 48 (0,0) (k.out ap.kx).2.2;have aA:E (U w)<E (U wc):=oM;have dc:=ed.cell;have dd:=ed.lt;by_cases eN:e=0
  ·subst eN
   cases jq:(eL.toList==[])
   ·go_wp2_with (first
     |(go_at_call 39;refine(bU ap.s.mk' _ _).mono ?_;rintro bw de ⟨⟨a7,ca,rfl,a8,a1,bB⟩,bC⟩;have a2:=ap.no a1 a8 bB;have ba:a7≠0:=(by obtain⟨df,dg,dh,bD⟩:=bC dC;have:=cz.inj a8 bD;simp at this;omega);have co:(a7==0)=false:=(sU ba))
     |(go_at_call 30;refine(bM a2.s.mk').mono ?_;rintro aZ aD ⟨rfl,o⟩;replace o:=o.symm;subst o))
    go_end0;exact cn.out a2 (lR _) ba
   ·by_cases f5:f2=2
    ·subst f5;by_cases hM:r<3
     ·go_wp2_with (first
       |(go_at_call 39;refine(bU ap.s.mk' _ _).mono ?_;rintro bw de ⟨⟨a7,ca,rfl,a8,a1,bB⟩,bC⟩;have a2:=ap.no a1 a8 bB;have ba:a7≠0:=(by obtain⟨df,dg,dh,bD⟩:=bC dC;have:=cz.inj a8 bD;simp at this;omega);have co:(a7==0)=false:=(sU ba))
       |(go_at_call 30;refine(bM a2.s.mk').mono ?_;rintro aZ aD ⟨rfl,o⟩;replace o:=o.symm;subst o))
      go_end0;exact cn.out a2 (lR _) ba
     ·have jr:decide (r<3)=false:=sU hM;by_cases eO:d9=0
      ·subst eO;have a1:Kp (E (U wc)) (E (U w)+1) wc (wc.setCell ⟨E (U w)+1,9,I⟩ (vN 0)):=⟨Q,Q,Q,sQ,λb _ c=>Below.heap_setCell _ ⟨E (U w)+1,9,I⟩ _ _ c⟩
       have eP:bJ (wc.setCell ⟨E (U w)+1,9,I⟩ (vN 0)) (E (U w)+1) a0 0 hA 0 hB hC:=by
        have:=heap_setCell_same wc (E (U w)+1) 9 _ 114 (vN 0) ap.cv;simpa[bJ] using this
       have a2:=ap.kp a1 eP;have js:g≠E (U w)+1:=oM;have hN:=ap.cv.cell;have hO:=ap.cv.fz;have hP:=ap.cv.lt;have hQ:wc.cell? ⟨g,11,I⟩=some (vN bk):=(R.out (k.out ap.kx).2.1).2.1 0 dC;have hR:wc.cell? ⟨g,12,I⟩=some (vN br):=(R.out (k.out ap.kx).2.1).2.1 1 dC;have hT:wc.cell? ⟨g,13,I⟩=some (vN bl):=(R.out (k.out ap.kx).2.1).2.1 2 dC;have hU:wc.cell? ⟨g,14,I⟩=some (vN bs):=(R.out (k.out ap.kx).2.1).2.1 3 dC;have hV:wc.cell? ⟨g,15,I⟩=some (.string bt):=(R.out (k.out ap.kx).2.1).2.1 4 dC;have hW:wc.cell? ⟨g,16,I⟩=some (J bu bm bv):=(R.out (k.out ap.kx).2.1).2.1 5 dC;have hX:wc.cell? ⟨g,17,I⟩=some (vN 0):=(R.out (k.out ap.kx).2.1).2.1 6 dC;have hY:wc.cell? ⟨g,18,I⟩=some (vN 0):=(R.out (k.out ap.kx).2.1).2.1 7 dC;have hZ:wc.cell? ⟨g,19,I⟩=some aH:=(R.out (k.out ap.kx).2.1).2.1 8 dC;have h0:wc.cell? ⟨g,20,I⟩=some aH:=(R.out (k.out ap.kx).2.1).2.1 9 dC;have eQ:wc.cell? ⟨g,21,I⟩=some aH:=(R.out (k.out ap.kx).2.1).2.1 10 dC;have bK:g<E (U wc):=oM;have cm:=dz (S:=λ_=>False) (D:=O M.ds) (w:=(wc.setCell ⟨E (U w)+1,9,I⟩ (vN 0))) (kind:=0) (n:=0) ⟨λe=>absurd e dC,dC,dC⟩
       have f6:Cx (wc.setCell ⟨E (U w)+1,9,I⟩ (vN 0)) (E (U w)+1) a0 (M.bu 0 c7) (O trs) (λ_=>False) 1 1:=by
        have f7:=f4.out (KX.cI a1 (.inr Q));rw[c6];exact⟨f7.1,eG,f7.2,eH,a2.s.pi,dY,cm.1,λ_ aF=>aF.elim,cm.2,lR _⟩
       have f8:=(R.out (k.out a2.kx).2.1).2.2.2.1;have f9:Hid (Calls Tryz.prog 44 #[.pointer (some ⟨E (U w)+1,0,I⟩),.agg (ae bk br bl bs bt (J bu bm bv))] (wc.setCell ⟨E (U w)+1,9,I⟩ (.int .i64 0)) (bE (wc.setCell ⟨E (U w)+1,9,I⟩ (.int .i64 0)) (E (U w)+1) a0 0 0 (λ_=>False) (O M.ds) (aG (h+3) (wc.setCell ⟨E (U w)+1,9,I⟩ (.int .i64 0)) (ae bk br bl bs bt (J bu bm bv)).toList*1))):=yG (h+3) f6 eP oM f8 hs;have h1:aG (h+3) (wc.setCell ⟨E (U w)+1,9,I⟩ (.int .i64 0)) (ae bk br bl bs bt (J bu bm bv)).toList<=96100:=hv.out (k.out a2.kx).2.1;clear cm f6 f8
       go_upto_region 14 with(first
        |(go_at_call 30;refine(bM ap.s.mk').mono ?_;rintro aZ aD ⟨rfl,o⟩;replace o:=o.symm;subst o)
        |(go_at_call 44;refine f9.out.mono ?_;rintro aZ di ⟨s,t,u,cp,x,y,cq,z,B,bF,bH,rfl,f',ef,⟨eg,ga⟩,gb⟩))
       have gc:=a2.kp ef f';obtain⟨bY,dj⟩:=al1 di (Ob (ak s t (J u cp x) (J y cq z)) 41);generalize hq:World.alloc di _=bI;have dk:di.alloc (Ob (ak s t (J u cp x) (J y cq z)) 41)=bI:=hq;rw[dk] at bY dj;have dl:=gc.below bY;obtain⟨cP,gd⟩:∃cP,cP=E (U di):=⟨_,Q⟩;rw[<-gd] at dj⊢;have h2:E (U wc)<=E (U di):=by have:=ef.size;simpa using this
       have ju:=bY.size
       have ge:Hid (∀{a:World},KX (λb=>Mu b\/b=E (U w)+1) (E (U bI)) bI a->a.heap[cP]? =some (Ob (ak s t (J u cp x) (J y cq z)) 41 (0,0))/\af (λb=>¬(Mu b\/b=E (U w)+1)) (Gd (O M.ds)) eg a (ak s t (J u cp x) (J y cq z)).toList/\∀f,bW f a (ak s t (J u cp x) (J y cq z)).toList<=aK):=λ{a} q=>by
        have gf:∀b,E (U wc)<=b->¬(Mu b\/b=E (U w)+1):=λb c C=>by
         rcases C with C|C
         ·have:=bO.out.2.2.1 b C;omega
         ·omega
        have gg:=af.weaken (S':=λb=>¬(Mu b\/b=E (U w)+1)) (λb c _=>gf b (by rcases c with c|c;exact c.elim;simpa using c)) _ _ ga;have gh:=af.frame (w':=bI) (λb _ p=>bY.block b p) bY.size _ _ gg;refine⟨(q.block _ (gE dj).1 (gf _ oM)).trans dj,af.frame (λb c p=>q.block b p c) q.size _ _ gh,λf=>?_⟩;rw[aL (λb c p=>q.block b p c) q.size _ _ gh,aL (S:=λb=>¬(Mu b\/b=E (U w)+1)) (w':=bI) (λb _ p=>bY.block b p) bY.size _ _ gg];have:=gb f;rw[cM.out.1 (k.out a2.kx).2.1] at this;omega
       have eh:Hid (KX (λb=>Mu b\/b=E (U w)+1) (E (U wc)) wc bI):=((KX.cI a1 (.inr Q)).trans ((KX.cI ef (.inr Q)).mono (λ_ _ h=>h) sQ)).trans ((KX.al bY).mono (λ_ _ h=>h) h2);clear hq dk bY dj f' ef ga gb gc f9 h1 a1 eP a2 hQ hR hT hU hV hW hX hY hZ h0 eQ bK hN hO hP aN aA dc dd gd;go_upto_region 15 with(go_at_call 45;refine(jt dl.s.mk' dl.cv).mono ?_;rintro cN cr ⟨gi,ei,rfl,gj,eR,gl⟩)
       have dm:=dl.no eR gj gl;have eS:KX (λb=>Mu b\/b=E (U w)+1) (E (U bI)) bI cr:=KX.cI eR dl.s.dG;have h3:=eS.size;have ej:=ge.out eS;have h4:=λj=>cell_of_row cr _ j _ 41 (0,0) ej.1;have h5:cP<E (U cr):=(gE ej.1).1;have aN:=λj=>cell_of_row cr _ j _ 48 (0,0) (k.out dm.kx).2.2;have aA:E (U w)<E (U cr):=oM;clear dl gj eR gl;by_cases eT:gi=0
       ·subst eT;have h6:Hid (Calls Tryz.prog 70 #[.agg (ak s t (J u cp x) (J y cq z)),vN (O G)] cr (iu cr)):=wg ej.2.1 (lT (Nat.mul_le_mul_left 6100 (lT (ej.2.2 eg) hx)) dC) (O G) fR
        go_wp2_with (first
         |(go_at_call 70;refine h6.out.mono ?_;rintro cO d ⟨jv,rfl,eU⟩;have a9:=dm.below eU;have jw:=eU.size;clear aN aA h4 h5;have aN:=λj=>cell_of_row d _ j _ 48 (0,0) (k.out a9.kx).2.2;have aA:E (U w)<E (U d):=oM)
         |(go_at_call 39;refine(bU a9.s.mk' _ _).mono ?_;rintro bw de ⟨⟨a7,ca,rfl,a8,a1,bB⟩,bC⟩;have gm:=a9.no a1 a8 bB;have ba:a7≠0:=(by obtain⟨df,dg,dh,bD⟩:=bC dC;have:=cz.inj a8 bD;simp at this;omega);have co:(a7==0)=false:=(sU ba))
         |(go_at_call 30;refine(bM gm.s.mk').mono ?_;rintro aZ aD ⟨rfl,o⟩;replace o:=o.symm;subst o)
         |(go_at_call 30;refine(bM a9.s.mk').mono ?_;rintro aZ aD ⟨rfl,o⟩;replace o:=o.symm;subst o)
         |(go_at_call 30;refine(bM dm.s.mk').mono ?_;rintro aZ aD ⟨rfl,o⟩;replace o:=o.symm;subst o))
        ·go_end0;exact cn.out gm (lR _) ba
        ·have dn:KX (λb=>Mu b\/b=E (U w)+1) (E (U bI)) bI d:=eS.trans ((KX.al eU).mono (λ_ _ h=>h) h3);have eV:E (U wc)<=E (U bI):=eh.out.size
         have ek:bx d bA (dF ⟨da,2,r,db⟩):=((eh.out.trans (dn.mono (λ_ _ h=>h) eV)).block bA ed.lt (λC=>by
          rcases C with C|C
          ·have:=bO.out.2.2.1 bA C;omega
          ·omega)).trans ed
         have ct:=ge.out dn
         obtain⟨bQ,rfl⟩:∃bQ,eg=bQ+1:=by
          cases eg with
          |zero=>exact absurd ct.2.1 (λar=>ar)
          |succ bQ=>exact⟨bQ,Q⟩
         obtain⟨L,N,gn,gp,h7,jx,h8,h9⟩:=ct.2.1.parts
         have h':cp=O L:=by
          obtain⟨_,_,e,_⟩:=gn;simp at e;exact e.2.1
         have ia:cq=O N:=by
          obtain⟨_,_,e,_⟩:=gp;simp at e;exact e.2.1
         subst h';subst ia;have gq:Hid (∀{a:World},Below (E (U d)) d a->(Ce a bA (dF ⟨da,2,r,db⟩))/\(Ce a (E (U w)) (ae 7 pos aY m name (J (aS g) (O P) kc)))/\(Ce a (E (U w)+1) (dy a0 0 B 0 bF bH))/\(Ce a cP (ak s t (J u (O L) x) (J y (O N) z)))):=λ{a} c=>⟨λj=>cell_of_row a _ j _ 104 (0,0) ((c.block _ ek.lt).trans ek),λj=>cell_of_row a _ j _ 48 (0,0) ((c.block _ aA).trans (k.out a9.kx).2.2),λj=>cell_of_row a _ j _ 114 (0,0) ((c.block _ (gE a9.cv).1).trans a9.cv),λj=>cell_of_row a _ j _ 41 (0,0) ((c.block _ (gE ct.1).1).trans ct.1)⟩;clear aN aA;go_region_held3 (λa=>(Ce a bA (dF ⟨da,2,r,db⟩))/\(Ce a (E (U w)) (ae 7 pos aY m name (J (aS g) (O P) kc)))/\(Ce a (E (U w)+1) (dy a0 0 B 0 bF bH))/\(Ce a cP (ak s t (J u (O L) x) (J y (O N) z)))) (first|assumption|exact gq.out ((Below.refl _ _).drew)|exact gq.out ((al1 _ _).1.drew)) (fail)
         obtain⟨aO,dp⟩:=al1 d (Ob (bR r mod pos B (J W (O G) X) s t (J u (O L) x) (J y (O N) z) aH) 43);have aO:=aO.drew;generalize hq:World.drew (World.alloc d _)=aE;have dk:(d.alloc (Ob (bR r mod pos B (J W (O G) X) s t (J u (O L) x) (J y (O N) z) aH) 43)).drew=aE:=hq;have dp:aE.heap[E (U d)]? =some (Ob (bR r mod pos B (J W (O G) X) s t (J u (O L) x) (J y (O N) z) aH) 43 (0,0)):=by rw[<-dk];exact dp
         rw[dk] at aO;have jy:E (U d)<E (U aE):=(gE dp).1;have ea:MS aE mb (M.bu 0 ei) trs au fns Xd Xi Xf (λb=>(Mu b\/b=E (U w)+1)\/b=E (U d)) H:=a9.s.grow aO (λb c=>.inl c) (λb c=>by rcases c with c|c;(have:=a9.s.mlt b c;omega);omega) (λb p c=>by rcases c with c|c;exact c;omega);have dq:aq (λb=>¬(Mu b\/b=E (U w)+1)) d aE:=λb _ p=>aO.block b p;have el:=λj=>cell_of_row aE _ j _ 43 (0,0) dp;have aN:=λj=>cell_of_row aE _ j _ 48 (0,0) ((aO.block _ oM).trans (k.out a9.kx).2.2);have aA:E (U w)<E (U aE):=oM;have eW:bx aE bA (dF ⟨da,2,r,db⟩):=(aO.block _ ek.lt).trans ek;have dc:=eW.cell;have dd:=eW.lt;have gr:Hid (Calls Tryz.prog 71 #[.pointer (aS mb),.agg (ae 7 pos aY m name (J (aS g) (O P) kc)),.agg (bR r mod pos B (J W (O G) X) s t (J u (O L) x) (J y (O N) z) aH),vN ev] aE (um aE mb (M.bu 0 ei) trs au fns Xd Xi Xf (λb=>(Mu b\/b=E (U w)+1)\/b=E (U d)) H)):=rD ea (af.frame dq aO.size _ _ ct.2.1) (gn.frame dq aO.size) (gp.frame dq aO.size) h8 (λar aF=>af.frame dq aO.size _ _ (af.le (h9 ar aF) _ (Nat.le_succ _))) ((hJ.out (eh.out.trans (dn.mono (λ_ _ h=>h) eV))).frame dq aO.size) hD fR h7 ev;have jz:=dn.size
         have ib:Hid (∀{a:World},KX (λb=>(Mu b\/b=E (U w)+1)\/b=E (U d)) (E (U aE)) aE a->(KX Mu (E (U w)) w a/\aq (λb=>b<B0) w a/\a.heap[E (U w)]? =some (Ob (ae 7 pos aY m name (J (some ⟨g,0,I⟩) (O P) kc)) 48 (0,0)))/\(a.ownsRow 0 9 1 (J ci (O a5) cj) (O a5) (bX a5)/\a.ownsRow 0 9 1 (J ck (O a6) cl) (O a6) (bX a6))/\af (λb=>¬(λb=>(Mu b\/b=E (U w)+1)\/b=E (U d)) b) (Gd (O M.ds)) (bQ+1) a (ak s t (J u (O L) x) (J y (O N) z)).toList/\∀f,bW f a (ak s t (J u (O L) x) (J y (O N) z)).toList<=aK):=λ{a} q=>by
          have fz:=a9.kx.size;have ic:KX (λb=>Mu b\/b=E (U w)+1) (E (U aa)) aa a:=a9.kx.trans (((KX.al aO).mono (λ_ _ h=>h) fz).trans (q.mono (λb p c=>by rcases c with c|c;exact c;omega) oM));have id:KX (λb=>Mu b\/b=E (U w)+1) (E (U wc)) wc a:=(eh.out.trans (dn.mono (λ_ _ h=>h) eV)).trans (((KX.al aO).mono (λ_ _ h=>h) oM).trans (q.mono (λb p c=>by rcases c with c|c;exact c;omega) oM));have gs:=af.weaken (S':=λb=>¬(λb=>(Mu b\/b=E (U w)+1)\/b=E (U d)) b) (λb c p C=>by rcases C with C|C;exact c C;omega) _ _ ct.2.1;have gt:=af.frame (w':=aE) (λb _ p=>aO.block b p) aO.size _ _ gs;refine⟨k.out ic,f4.out id,af.frame (λb c p=>q.block b p c) q.size _ _ gt,λf=>?_⟩;rw[aL (λb c p=>q.block b p c) q.size _ _ gt,aL (S:=λb=>¬(λb=>(Mu b\/b=E (U w)+1)\/b=E (U d)) b) (w':=aE) (λb _ p=>aO.block b p) aO.size _ _ gs];exact ct.2.2 f
         have ie:Hid ((∀b,(Value.slice ci (O a5) cj).ownBlock=some b->¬(λb=>(Mu b\/b=E (U w)+1)\/b=E (U d)) b)/\∀b,(Value.slice ck (O a6) cl).ownBlock=some b->¬(λb=>(Mu b\/b=E (U w)+1)\/b=E (U d)) b):=by
          have c4:∀b,E (U aa)<=b/\b<E (U ax)->¬(λb=>(Mu b\/b=E (U w)+1)\/b=E (U d)) b:=λb c C=>by
           rcases C with(C|C)|C
           ·have:=bO.out.2.2.1 b C;omega
           ·omega
           ·omega
          exact⟨λb c=>c4 b (fK.out.1 b c),λb c=>c4 b (fK.out.2 b c)⟩
         go_upto_if 124 with fail
         go_cut [] (λaD=>∃(aW:List Dd) (av aU:Int),O aW=O M.ds/\MS aD mb ({M with ds:=aW}.bu av aU) trs au fns Xd Xi Xf (λb=>(Mu b\/b=E (U w)+1)\/b=E (U d)) H/\KX (λb=>(Mu b\/b=E (U w)+1)\/b=E (U d)) (E (U aE)) aE aD/\KT (λem=>em≠69/\em≠66) aE aD/\(M.fk≠0->av=M.fk))
         case first=>
          by_cases cL:r=3
          ·subst cL;go_wp2_with (go_at_call 71;refine gr.out.mono ?_;rintro jA jB ⟨ig,en,eo,rfl,ih,bz,cQ,ep,cu⟩)
           go_meet;exact⟨ig,en,eo,ih,bz,cQ,cu,λh=>by have e:=a9.hf h;exact absurd e.symm h⟩
          ·have jC:(r==3)=false:=sU cL;go_wp2_with fail;go_meet;exact⟨M.ds,0,ei,Q,ea,KX.refl _ _ _,KT.below (Below.refl _ _),a9.hf⟩
         case rest=>
          clear aN aA dc dd el gr;obtain⟨aW,en,eo,ee,bz,cQ,cu,ep⟩:=hcut;have jD:=cQ.size;have eX:bx wc bA (dF ⟨da,2,r,db⟩):=aw cu eW dC;have eq:wc.heap[E (U w)]? =some (Ob (ae 7 pos aY m name (J (aS g) (O P) kc)) 48 (0,0)):=aw cu ((aO.block _ oM).trans (k.out a9.kx).2.2) dC;have eY:wc.heap[E (U d)]? =some (Ob (bR r mod pos B (J W (O G) X) s t (J u (O L) x) (J y (O N) z) aH) 43 (0,0)):=aw cu dp dC;have eZ:bJ wc (E (U w)+1) a0 0 B 0 bF bH:=aw cu ((aO.block _ (gE a9.cv).1).trans a9.cv) dC;have jF:r<(O trs:Int):=f1.2.2 Q;have ey:0<=r:=f1.1;obtain⟨ar,aF⟩:∃ar,trs[r.toNat]? =some ar:=⟨_,gG oM⟩;obtain⟨gu,ii,gv,jG,-,gw⟩:=aP bz.tr Q (λar aF=>by obtain⟨cJ,cX,b5,c7,ij,ca,ik,e,-⟩:=bz.jo ar aF;rw[e];rfl) aF;obtain⟨jH,jI,jJ,jK,dr,ds,aX,rfl,gx,gz,jL⟩:=bz.jo ar (mG aF);have il:wc.cell? ⟨mb,2,I⟩=some (J (aS gu) (O trs) ii):=(bz.mk'.cell 2).trans (congrArg some gv);have jN:=bz.mk'.lt;have im:wc.cell? ⟨gu,r.toNat*5+4,I⟩=some (J dr (O aX) ds):=gw 4 dC;have dc:=eX.cell;have dd:=eX.lt;have aN:=λj=>cell_of_row wc _ j _ 48 (0,0) eq;have aA:E (U w)<E (U wc):=(gE eq).1;have gA:Hid (ro wc (λb=>¬((λb=>(Mu b\/b=E (U w)+1)\/b=E (U d)) b)) 9 (J dr (O aX) ds) (O aX) aX.flatten/\(∀bS∈aX,fT (λb=>¬((λb=>(Mu b\/b=E (U w)+1)\/b=E (U d)) b)) (O aW) H wc bS)):=⟨gx,gz⟩;clear gw aF gv gx gz;go_wp2_with fail;go_quiet (fail)
          have cb:=fI (Below.refl (E (U wc)) wc) nq;have b9:=bz.below cb;have jO:=cb.size
          have jP:IntKind.i64.wrap ((O P:Int) - 2)=(O P:Int) - 2:=by
           have:=bN.out;rw[IntKind.wrap_i64];omega
          have e0:=(cb.block _ aA).trans eq;have gB:=(cb.block _ (gE eY).1).trans eY;have gC:bJ (wc.drewN nq) (E (U w)+1) a0 0 B 0 bF bH:=(cb.block _ (gE eZ).1).trans eZ;clear aN aA dc dd il im;have aN:=λj=>cell_of_row (wc.drewN nq) _ j _ 48 (0,0) e0;have aA:E (U w)<E (U (wc.drewN nq)):=(gE e0).1;obtain⟨cv,io⟩:∃cv,cv=wc:=⟨_,Q⟩;subst io;go_upto_if 146 with fail
          go_cut [] (λaD=>∃(av aU:Int),MS aD mb ({M with ds:=aW}.bu av aU) trs au fns Xd Xi Xf (λb=>(Mu b\/b=E (U w)+1)\/b=E (U d)) H/\KX (λb=>(Mu b\/b=E (U w)+1)\/b=E (U d)) (E (U (cv.drewN nq))) (cv.drewN nq) aD/\KT (λem=>em≠66) (cv.drewN nq) aD/\(M.fk≠0->av=M.fk)/\(av=0->O aX=O Z))
          case first=>
           by_cases e1:(O aX:Int)=(O P:Int) - 2
           ·have e2:Hid (O aX=O Z):=by
             have:=bN.out;show _=_;omega
            have ip:((O aX:Int)==(O P:Int) - 2)=true:=sU e1;clear e1;go_wp2_with fail;go_meet;exact⟨en,eo,b9,KX.refl _ _ _,KT.below (Below.refl _ _),ep,λ_=>e2.out⟩
           ·have ip:((O aX:Int)==(O P:Int) - 2)=false:=sU e1;go_wp2_with (go_at_call 39;refine(bU b9.mk' _ _).mono ?_;rintro bw de ⟨⟨a7,ca,rfl,a8,a1,bB⟩,bC⟩)
            go_meet
            have ba:a7≠0:=by
             obtain⟨df,dg,dh,bD⟩:=bC dC;have:=cz.inj a8 bD;simp at this;omega
            exact⟨a7,ca,b9.no a8 a1,KX.cI a1 b9.dG,KT.yD b9.mk' a1,λh=>by have e:=ep h;have:=bB (by show en≠0;rw[e];exact h);rw[this];exact e,λe=>absurd e ba⟩
          case rest=>
           obtain⟨e3,e4,e5,er,e6,gD,gH⟩:=hcut;obtain⟨ay,iq⟩:∃ay,ay=wc:=⟨_,Q⟩;subst iq;have gI:=aw e6 gB dC;have gK:bJ ay (E (U w)+1) a0 0 B 0 bF bH:=aw e6 gC dC;have jQ:=er.size;have jR:=cQ.size;have e7:KX (λb=>(Mu b\/b=E (U w)+1)\/b=E (U d)) (E (U aE)) aE ay:=(cQ.trans ((KX.al cb).mono (λ_ _ h=>h) oM)).trans (er.mono (λ_ _ h=>h) oM)
           have bb:Hid (∀{a:World},KX (λb=>(Mu b\/b=E (U w)+1)\/b=E (U d)) (E (U ay)) ay a->((KX Mu (E (U w)) w a/\aq (λb=>b<B0) w a/\a.heap[E (U w)]? =some (Ob (ae 7 pos aY m name (J (some ⟨g,0,I⟩) (O P) kc)) 48 (0,0)))/\(a.ownsRow 0 9 1 (J ci (O a5) cj) (O a5) (bX a5)/\a.ownsRow 0 9 1 (J ck (O a6) cl) (O a6) (bX a6))/\af (λb=>¬(λb=>(Mu b\/b=E (U w)+1)\/b=E (U d)) b) (Gd (O aW)) (bQ+1) a (ak s t (J u (O L) x) (J y (O N) z)).toList/\∀f,bW f a (ak s t (J u (O L) x) (J y (O N) z)).toList<=aK)/\ro a (λb=>¬(λb=>(Mu b\/b=E (U w)+1)\/b=E (U d)) b) 9 (J dr (O aX) ds) (O aX) aX.flatten/\∀bS∈aX,fT (λb=>¬(λb=>(Mu b\/b=E (U w)+1)\/b=E (U d)) b) (O aW) H a bS):=λ{a} q=>by
            have d6:KX (λb=>(Mu b\/b=E (U w)+1)\/b=E (U d)) (E (U aE)) aE a:=e7.trans (q.mono (λ_ _ h=>h) e7.size);have a':aq (λb=>¬(λb=>(Mu b\/b=E (U w)+1)\/b=E (U d)) b) cv a:=λb c p=>(q.block b oM c).trans ((er.block b oM c).trans (cb.block b p));have cB:E (U cv)<=E (U a):=oH q.size;have gL:=ib.out d6;rw[<-ee] at gL;exact⟨gL,gA.out.1.frame a' cB,λbS dt=>(gA.out.2 bS dt).frame a' cB⟩
           have gM:Hid (O aW=O M.ds):=ee;have gN:Hid (e3=0->O aX=O Z):=gH;have gO:IL ay mb (E (U w)+1) (E (U d)) {M with ds:=aW} trs au fns Xd Xi Xf (λb=>(Mu b\/b=E (U w)+1)\/b=E (U d)) H (dy a0 0 B 0 bF bH) (λv=>bR r mod pos B (J W (O G) X) s t (J u (O L) x) (J y (O N) z) v) 0 0 (λb=>(Mu b\/b=E (U w)+1)\/b=E (U d)) H fo fc fns Xf I 0 [] ay e3 e4:=⟨by rw[<-fl];exact e5,KX.refl _ _ _,gK,gI,World.ownsRow_nil _ _ _ _,λb e=>by simp[Value.ownBlock] at e,.inr Q,.inl (.inr Q),e5.dG,λ_ h=>h,λ_ _ h=>h,gD,lR _,λ_=>rfl,lR _,lR _⟩;clear bz b9 cQ cu cb eq eY eZ e0 gB gC e5 er e6 gI gK ee gH e7 gD ep aN aA eX;have e8:Hid (E (U d)<E (U ay)/\E (U w)+1<E (U d)):=⟨oM,oM⟩;have e9:=(bb.out (KX.refl _ _ _)).1.1.2.2;have aN:=λj=>cell_of_row ay _ j _ 48 (0,0) e9;have aA:E (U w)<E (U ay):=(gE e9).1;have jS:(O P:Int)<=(kc:Int):=oM;have jT:(2:Int)<=(O P:Int):=oH bN.out;by_cases ir:kc=2
           case' pos=>
            subst ir
            have iv:Hid (O Z=0):=by
             have:=bN.out;show _=_;omega
            go_wp2_with fail
           case' neg=>
            go_wp2_with fail;rw[show O P - 2=O Z from(oH bN.out)]
           all_goals
            have gP:M.iv.ownBlock≠some (E (U d)):=λe=>by
             have aR:=bO.out.2.2.1 _ (bO.out.1.lK _ e);have b7:=e8.out.2;omega
            have es:Hid (∀{a:World} {i Y:Nat} {av aU:Int} {bc:Nat->Prop} {bj:Nat} {bo:OA} {bp:Nat} {bd:VV} {bn:Nat} {ag:OA} {ai:Nat} {F:List Value},IL ay mb (E (U w)+1) (E (U d)) {M with ds:=aW} trs au fns Xd Xi Xf (λb=>(Mu b\/b=E (U w)+1)\/b=E (U d)) H (dy a0 0 B 0 bF bH) (λv=>bR r mod pos B (J W (O G) X) s t (J u (O L) x) (J y (O N) z) v) i Y bc bj bo bp bd bn ag ai F a av aU->(∀b,b<E (U w)->bc b->Mu b)/\∀b,bc b->B0<=b):=λ{a i Y av aU bc bj bo bp bd bn ag ai F} A=>by
             obtain⟨jU,eC⟩:=e8.out;refine⟨λb p c=>?_,λb c=>?_⟩
             ·rcases A.m2 b oM c with(aR|aR)|aR
              ·exact aR
              ·omega
              ·omega
             ·by_cases c9:b<E (U ay)
              ·rcases A.m2 b c9 c with(aR|aR)|aR
               ·exact bO.out.2.1 b aR
               ·omega
               ·omega
              ·omega
            have iw:Hid (∀{a:World} {i:Nat} {av aU:Int} {bc:Nat->Prop} {bj:Nat} {bo:OA} {bp:Nat} {bd:VV} {bn:Nat} {ag:OA} {ai:Nat} {F:List Value},IL ay mb (E (U w)+1) (E (U d)) {M with ds:=aW} trs au fns Xd Xi Xf (λb=>(Mu b\/b=E (U w)+1)\/b=E (U d)) H (dy a0 0 B 0 bF bH) (λv=>bR r mod pos B (J W (O G) X) s t (J u (O L) x) (J y (O N) z) v) i (((Z.map (aG (h+3) w)).take i).sum*aK) bc bj bo bp bd bn ag ai F a av aU->i<=O Z->av≠0->gF w mb M trs au fns Xd Xi Xf Mu H (O P) bf (.returned (.tuple #[])) a):=λ{a i av aU bc bj bo bp bd bn ag ai F} A d8 eK=>by
             have aR:=cM.out.2.2 i;have b7:=Nat.mul_le_mul (show((Z.map (aG (h+3) w)).take i).sum<=bf by omega) (show aK<=bf by omega);have cL:=A.fl;have ix:=bN.out;refine⟨av,aU,aW,bd,bo,bp,au,ivo,ivc,bc,bj,Xi,bn,Q,gM.out,by rw[<-cU];exact A.s,(bb.out A.kx).1.1.1,λb c=>A.m1 b (.inl (.inl c)),(es.out A).1,A.hf,A.hH,oM,oM,λe=>absurd e eK,oM,lT A.xf oM⟩
            go_loopg [17,18,155] (O Z) (λiy _ _ gQ wr=>∃(i:Nat) (av aU:Int) (bc:Nat->Prop) (bj:Nat) (bo:OA) (bp:Nat) (bd:VV) (bn:Nat) (ag:OA) (ai:Nat) (F:List Value),iy=O Z - i/\gQ=.int .i64 i/\i<=O Z/\Hid (O F=i)/\IL ay mb (E (U w)+1) (E (U d)) {M with ds:=aW} trs au fns Xd Xi Xf (λb=>(Mu b\/b=E (U w)+1)\/b=E (U d)) H (dy a0 0 B 0 bF bH) (λv=>bR r mod pos B (J W (O G) X) s t (J u (O L) x) (J y (O N) z) v) i (((Z.map (aG (h+3) w)).take i).sum*aK) bc bj bo bp bd bn ag ai F wr av aU/\Hid (av=0->O aX=O Z))
            case atStart=>exact⟨0,e3,e4,_,H,fo,fc,fns,Xf,I,0,[],Q,Q,zL _,Q,by rw[List.take_zero,List.sum_nil,Nat.zero_mul];exact gO,gN⟩
            case round=>
             clear gO gN e9 aN aA;obtain⟨i,av,aU,bc,bj,bo,bp,bd,bn,ag,ai,F,gR,rfl,d8,gS,A,e'⟩:=hrel;have iz:Hid (gk=O Z - i):=gR;clear gR;by_cases fa:i<O Z
             ·first
              |exact absurd fa (oH iv.out)
              |have iA:(i:Int)<(O Z:Int):=by omega
               obtain⟨aj,bh,al,ao,ab,bi,ac,fb,eC,fd⟩:=hy.out i fa;have bq:=fd wr (bb.out A.kx).1.1.2.1;have bK:g<E (U wr):=oH (bb.out A.kx).1.1.1.size;have c0:wr.cell? ⟨g,22+i*11,I⟩=some (vN 8):=bq.1 0 dC;have cg:wr.cell? ⟨g,22+i*11+1,I⟩=some (vN aj):=bq.1 1 dC;have ch:wr.cell? ⟨g,22+i*11+2,I⟩=some (vN bh):=bq.1 2 dC;have c1:wr.cell? ⟨g,22+i*11+3,I⟩=some (vN al):=bq.1 3 dC;have c2:wr.cell? ⟨g,22+i*11+4,I⟩=some (.string ao):=bq.1 4 dC;have b8:wr.cell? ⟨g,22+i*11+5,I⟩=some (J ab bi ac):=bq.1 5 dC;have bw:wr.cell? ⟨g,22+i*11+6,I⟩=some (vN 0):=bq.1 6 dC;have aZ:wr.cell? ⟨g,22+i*11+7,I⟩=some (vN 0):=bq.1 7 dC;have c3:wr.cell? ⟨g,22+i*11+8,I⟩=some aH:=bq.1 8 dC;have cN:wr.cell? ⟨g,22+i*11+9,I⟩=some aH:=bq.1 9 dC;have cO:wr.cell? ⟨g,22+i*11+10,I⟩=some aH:=bq.1 10 dC;have bZ:=A.below (al1 wr (Ob (ae 8 aj bh al ao (J ab bi ac)) 48)).1;clear bq;by_cases b3:av=0
               ·subst b3;have e2:Hid (O aX=O Z):=e'.out Q
                have iB:∀ar:Value,Hid (O (F++[ar])=i+1):=λar=>by
                 have:=gS.out;show(F++[ar]).length=i+1;simp;omega
                obtain⟨bS,dt⟩:∃bS,aX[i]? =some bS:=⟨_,gG (oH (e'.out Q))⟩;have gT:=mG dt
                have gU:Hid (∀{a:World},KX (λb=>(Mu b\/b=E (U w)+1)\/b=E (U d)) (E (U ay)) ay a->∃g iC,dr=some ⟨g,0,I⟩/\ds=iC/\∀j,j<9->a.cell? ⟨g,i*9+j,I⟩=bS[j]?):=λ{a} q=>by
                 obtain⟨V,fe,iD,-,iE⟩:=ro.lJ (bb.out q).2.1 Q (λar aF=>by obtain⟨jV,cJ,cX,b5,c7,ij,ca,ik,jW,ei,jX,jY,eo,jZ,e4,j0,gV,j1,j2,e,-⟩:=(bb.out q).2.2 ar aF;rw[e];rfl) dt;have gW:dr=some ⟨V,0,I⟩/\ds=fe:=sU iD;exact⟨V,fe,gW.1,gW.2,iE⟩
                obtain⟨du,dv,dw,dx,dA,dB,dD,dE,dG,dI,dJ,dK,dL,dM,dN,dO,dP,dQ,dR,rfl,gX,gY,gZ,g0⟩:=(bb.out (KX.refl _ _ _)).2.2 bS gT;obtain⟨V,fe,rfl,rfl,-⟩:=gU.out A.kx
                have b0:Hid (∀{a:World},KX (λb=>(Mu b\/b=E (U w)+1)\/b=E (U d)) (E (U ay)) ay a->∀j,j<9->a.cell? ⟨V,i*9+j,I⟩=(eM du dv (J dw dx dA) (J dB dD dE) dG (O dJ) dI dK dL (J dM dN dO) (J dP dQ dR)).toList[j]?):=λ{a} q=>by
                 obtain⟨b6,j3,iF,-,iG⟩:=gU.out q;obtain rfl:V=b6:=sU iF;exact iG
                have j4:(i:Int)<(O aX:Int):=oH (e'.out Q);have ff:=fd (wr.alloc (Ob (ae 8 aj bh al ao (J ab bi ac)) 48)) (bb.out bZ.kx).1.1.2.1;obtain⟨a3,a4,rfl,rfl,g1⟩:=tU (h:=h+1) ff.2.1
                have et:FK B0 (h+1) (wr.alloc (Ob (ae 8 aj (O a4:Int) al ao (J ab (O a3) ac)) 48)) ab ac a3 a4 (aG (h+3) w (ae 8 aj (O a4:Int) al ao (J ab (O a3) ac)).toList):=by
                 have e:=ff.2.2;have f:=g1;rw[show aG (h+1+2) (wr.alloc (Ob (ae 8 aj (O a4:Int) al ao (J ab (O a3) ac)) 48)) (ae 8 aj (O a4:Int) al ao (J ab (O a3) ac)).toList=aG (h+3) w (ae 8 aj (O a4:Int) al ao (J ab (O a3) ac)).toList from e] at f;exact f
                obtain⟨dS,iH⟩:∃dS,dS=aG (h+3) w (ae 8 aj (O a4:Int) al ao (J ab (O a3) ac)).toList:=⟨_,Q⟩;rw[<-iH] at et fb;have g2:6100*(dS*aK)<=17592186044416:=qX (by have aR:=nP fb;have b7:=cM.out.2.2 (i+1);omega)
                have iI:Hid (B0<=E (U (wr.alloc (Ob (ae 8 aj (O a4:Int) al ao (J ab (O a3) ac)) 48)))):=by
                 have aR:=(bb.out bZ.kx).1.1.1.size;show B0<=_;omega
                have iJ:Hid (∀{a:World},Below (E (U (wr.alloc (Ob (ae 8 aj (O a4:Int) al ao (J ab (O a3) ac)) 48)))) (wr.alloc (Ob (ae 8 aj (O a4:Int) al ao (J ab (O a3) ac)) 48)) a->Calls Tryz.prog 72 #[.pointer (aS mb),vN mod,.agg (ae 8 aj (O a4:Int) al ao (J ab (O a3) ac)),.pointer (aS (E (U w)+1)),.agg (bR r mod pos B (J W (O G) X) s t (J u (O L) x) (J y (O N) z) (J ag (O F) ai)),.agg (eM du dv (J dw dx dA) (J dB dD dE) dG (O dJ) dI dK dL (J dM dN dO) (J dP dQ dR))] a (jE a mb (E (U w)+1) ({{M with ds:=aW} with fv:=J bo (O bd) bp}.bu 0 aU) trs au bd Xd Xi bn bc bj (dS*aK))):=λ{a} c=>by
                 have aI:=bZ.below c;have g3:=bb.out aI.kx;have g4:=bb.out (KX.refl (λb=>(Mu b\/b=E (U w)+1)\/b=E (U d)) (E (U ay)) ay);have iK:aq (λb=>b<B0) (wr.alloc (Ob (ae 8 aj (O a4:Int) al ao (J ab (O a3) ac)) 48)) a:=λb _ p=>c.block b p;have g5:=et.frame iK iI.out et.yQ
                 have iL:CB a (E (U w)+1) a0 0 B 0 bF bH bc:=by
                  have cK:=aI.yF;have c5:=g3.1.2.1;have g6:=g4.1.2.1;have cA:=ie.out;rw[c6] at cK⊢;exact⟨cK,aI.m1 _ aI.mY,c5.1,eG,c5.2,eH,λb c=>aI.wk b (cA.1 b c) (g6.1.lt b c).2,λb c=>aI.wk b (cA.2 b c) (g6.2.lt b c).2⟩
                 exact tz (h:=h+1) aI.s iL Q (oI aI.fl bN.out) (ivo:=ivo) (ivc:=ivc) cU dY (es.out aI).2 oM ew g5 oM g5.yQ (af.frame aI.same aI.kx.size _ _ (af.weaken aI.wk _ _ g4.1.2.2.1)) g3.1.2.2.2 cM.out.2.1 ((gX.weaken aI.wk).frame aI.same aI.kx.size) (λar aF=>af.frame aI.same aI.kx.size _ _ (af.weaken aI.wk _ _ (gY ar aF))) (af.frame aI.same aI.kx.size _ _ (af.weaken aI.wk _ _ gZ)) g0 g2
                have g7:Hid (∀{a:World},KX (λb=>(Mu b\/b=E (U w)+1)\/b=E (U d)) (E (U ay)) ay a->a.heap[E (U wr)]? =some (Ob (ae 8 aj (O a4:Int) al ao (J ab (O a3) ac)) 48 (0,0))->a.heap[E (U d)]? =some (Ob (bR r mod pos B (J W (O G) X) s t (J u (O L) x) (J y (O N) z) (J ag (O F) ai)) 43 (0,0))->(Ce a (E (U wr)) (ae 8 aj (O a4:Int) al ao (J ab (O a3) ac)))/\(Ce a (E (U d)) (bR r mod pos B (J W (O G) X) s t (J u (O L) x) (J y (O N) z) (J ag (O F) ai)))/\a.cell? ⟨V,i*9,I⟩=some (.string du)/\a.cell? ⟨V,i*9+1,I⟩=some (vN dv)/\a.cell? ⟨V,i*9+2,I⟩=some (J dw dx dA)/\a.cell? ⟨V,i*9+3,I⟩=some (J dB dD dE)/\a.cell? ⟨V,i*9+4,I⟩=some (J dG (O dJ) dI)/\a.cell? ⟨V,i*9+5,I⟩=some (vN dK)/\a.cell? ⟨V,i*9+6,I⟩=some (vN dL)/\a.cell? ⟨V,i*9+7,I⟩=some (J dM dN dO)/\a.cell? ⟨V,i*9+8,I⟩=some (J dP dQ dR)):=λ{a} q aR b7=>⟨λj=>cell_of_row a _ j _ 48 (0,0) aR,λj=>cell_of_row a _ j _ 43 (0,0) b7,b0.out q 0 dC,b0.out q 1 dC,b0.out q 2 dC,b0.out q 3 dC,b0.out q 4 dC,b0.out q 5 dC,b0.out q 6 dC,b0.out q 7 dC,b0.out q 8 dC⟩;have iM:Hid (¬bc (E (U wr))):=λC=>oH (A.s.mlt _ C);have iN:Hid (∀{a:World},Below (E (U (wr.alloc (Ob (ae 8 aj (O a4:Int) al ao (J ab (O a3) ac)) 48)))) (wr.alloc (Ob (ae 8 aj (O a4:Int) al ao (J ab (O a3) ac)) 48)) a->(Ce a (E (U wr)) (ae 8 aj (O a4:Int) al ao (J ab (O a3) ac)))/\(Ce a (E (U d)) (bR r mod pos B (J W (O G) X) s t (J u (O L) x) (J y (O N) z) (J ag (O F) ai)))/\a.cell? ⟨V,i*9,I⟩=some (.string du)/\a.cell? ⟨V,i*9+1,I⟩=some (vN dv)/\a.cell? ⟨V,i*9+2,I⟩=some (J dw dx dA)/\a.cell? ⟨V,i*9+3,I⟩=some (J dB dD dE)/\a.cell? ⟨V,i*9+4,I⟩=some (J dG (O dJ) dI)/\a.cell? ⟨V,i*9+5,I⟩=some (vN dK)/\a.cell? ⟨V,i*9+6,I⟩=some (vN dL)/\a.cell? ⟨V,i*9+7,I⟩=some (J dM dN dO)/\a.cell? ⟨V,i*9+8,I⟩=some (J dP dQ dR)):=λ{a} c=>g7.out (bZ.below c).kx ((c.block _ sQ).trans (al1 wr _).2) (bZ.below c).wF;clear g1 et ff g2 gX gY gZ g0 fd gT dt;go_upto_region 28 with(go_at_call 30;refine(bM bZ.s.mk').mono ?_;rintro aZ aD ⟨rfl,o⟩;replace o:=o.symm;subst o)
                clear c0 cg ch c1 c2 b8 bw aZ c3 cN cO bK;go_region_held3 (λa=>(Ce a (E (U wr)) (ae 8 aj (O a4:Int) al ao (J ab (O a3) ac)))/\(Ce a (E (U d)) (bR r mod pos B (J W (O G) X) s t (J u (O L) x) (J y (O N) z) (J ag (O F) ai)))/\a.cell? ⟨V,i*9,I⟩=some (.string du)/\a.cell? ⟨V,i*9+1,I⟩=some (vN dv)/\a.cell? ⟨V,i*9+2,I⟩=some (J dw dx dA)/\a.cell? ⟨V,i*9+3,I⟩=some (J dB dD dE)/\a.cell? ⟨V,i*9+4,I⟩=some (J dG (O dJ) dI)/\a.cell? ⟨V,i*9+5,I⟩=some (vN dK)/\a.cell? ⟨V,i*9+6,I⟩=some (vN dL)/\a.cell? ⟨V,i*9+7,I⟩=some (J dM dN dO)/\a.cell? ⟨V,i*9+8,I⟩=some (J dP dQ dR)) (first|assumption|exact iN.out ((Below.refl _ _).drew)|exact iO) (first|(go_at_call 72;refine(iJ.out ((Below.refl _ _).drew)).mono ?_;rintro j5 cR g8;have iP:=g8.kx;obtain⟨iQ,gV,g9,g',ha,j6,hb,hc,rfl,aB⟩:=(bZ.below ((Below.refl _ _).drew)).method g8 rfl;have iO:=g7.out aB.kx ((iP.block _ sQ iM.out).trans (al1 wr _).2) aB.wF))
                have cw:cR.heap[E (U d)]? =some (Ob (bR r mod pos B (J W (O G) X) s t (J u (O L) x) (J y (O N) z) (J ag (O F) ai)) 43 (0,0)):=aB.wF;have el:=λj=>cell_of_row cR _ j _ 43 (0,0) cw;have hd:E (U d)<E (U cR):=(gE cw).1;have iR:Hid (∀(ar:Int) (b1:TypeId),∃bT w',(Builtin.append_ #[38,38] b1 #[J ag (O F) ai,J (some ⟨E (U cR),0,I⟩) 1 1]).run Tryz.prog (cR.alloc (Ob #[.int .i64 ar] 3))=.ok bT w'/\∃dT dU iS,bT=J dT (O F+1) dU/\w'.heap[E (U d)]? =some (Ob (bR r mod pos B (J W (O G) X) s t (J u (O L) x) (J y (O N) z) (J ag (O F) ai)) 43 (0,0))/\IL ay mb (E (U w)+1) (E (U d)) {M with ds:=aW} trs au fns Xd Xi Xf (λb=>(Mu b\/b=E (U w)+1)\/b=E (U d)) H (dy a0 0 B 0 bF bH) (λv=>bR r mod pos B (J W (O G) X) s t (J u (O L) x) (J y (O N) z) v) (i+1) (((Z.map (aG (h+3) w)).take i).sum*aK+dS*aK) iS hc g' ha g9 hb dT dU (F++[.int .i64 ar]) (w'.setCell ⟨E (U d),9,I⟩ (J dT (O F+1) dU)) iQ gV):=λar b1=>aB.push (λ_ _=>rfl) e8.out.1 gP ar (oI gS.out bN.out) b1 Q;go_wp2_with (at_builtin;refine bG 38 (v:=J ag (O F) ai) (xv:=J (aS (E (U cR))) 1 1) rQ rQ rQ rQ (iR.out _ _) ?_;rintro bT fg ⟨dT,dU,iT,rfl,fh,bP⟩;clear el hd;have el:=λj=>cell_of_row fg _ j _ 43 (0,0) fh;have hd:E (U d)<E (U fg):=(gE fh).1;have j7:=λj=>frozen_of_row fg (E (U d)) j _ 43 fh)
                go_roundg (O Z - (i+1))
                case measure=>rw[iz.out];omega
                case rel=>exact⟨i+1,_,_,iT,hc,g',ha,g9,hb,dT,dU,_,Q,by go_num,fa,iB _,by rw[aV fb,Nat.add_mul];exact bP,λ_=>e2.out⟩
               ·have co:(av==0)=false:=sU b3;go_wp2_with (go_at_call 30;refine(bM bZ.s.mk').mono ?_;rintro aZ aD ⟨rfl,o⟩;replace o:=o.symm;subst o)
                go_end0;exact iw.out bZ d8 b3
             ·have iA:¬(i:Int)<(O Z:Int):=oM;have j8:¬(i:Int)<0:=oM;have hf:Hid (af (λb=>¬bc b) (Gd (O aW)) (max bj (bQ+1)) wr (ak s t (J u (O L) x) (J y (O N) z)).toList):=af.le (af.frame A.same A.kx.size _ _ (af.weaken A.wk _ _ (bb.out (KX.refl (λb=>(Mu b\/b=E (U w)+1)\/b=E (U d)) (E (U ay)) ay)).1.2.2.1)) _ (Nat.le_max_right _ _);have cw:wr.heap[E (U d)]? =some (Ob (bR r mod pos B (J W (O G) X) s t (J u (O L) x) (J y (O N) z) (J ag (O F) ai)) 43 (0,0)):=A.wF;have hg:E (U d)<E (U wr):=(gE cw).1;have iU:E (U d)≠mb:=aJ cw A.s.mk' dC
              have j9:wr.cell? ⟨mb,3,I⟩=some (J ivo (O au) ivc):=by
               rw[A.s.mk'.cell 3];show some M.iv=_;rw[cU]
              have j':=A.s.mk'.lt;have ka:mb<E (U wr)+1:=oM;obtain⟨cy,dV⟩:∃cy:MK,cy=({{M with ds:=aW} with fv:=J bo (O bd) bp}.bu av aU):=⟨_,Q⟩;have iV:cy.iv=J ivo (O au) ivc:=by rw[dV];exact cU
              have iW:O cy.ds=O aW:=by rw[dV]
              have iX:cy.iv.ownBlock≠some (E (U d)):=by rw[dV];exact gP
              have hh:MS wr.drew mb cy trs au bd Xd Xi bn bc (max bj (bQ+1)):=by
               rw[dV];exact(A.s.le (Nat.le_max_left bj (bQ+1))).below ((Below.refl (E (U wr)) wr).drew)
              have hi:=λb1=>hh.yk (fo:=ivo) (fc:=ivc) iV (cs:=(bR r mod pos B (J W (O G) X) s t (J u (O L) x) (J y (O N) z) (J ag (O F) ai))) (Y:=aK) (by rw[iW];exact⟨r,mod,pos,B,W,O G,X,s,t,u,O L,x,y,O N,z,ag,O F,ai,Q,af.frame (w:=wr) (w':=wr.drew) (λ_ _ _=>rfl) (lR _) _ _ hf.out,λf=>by rw[aL (w:=wr) (w':=wr.drew) (λ_ _ _=>rfl) (lR _) _ _ hf.out];exact(bb.out A.kx).1.2.2.2 f⟩) Q (by intro gQ cS;simp at cS;repeat(first|(subst cS;rfl)|(rcases cS with cS|cS;(subst cS;rfl)))) oM b1 (ad:=E (U wr)) Q
              have eu:Hid (O bd+2<=O fns+O P/\(av=0->O bd+2=O fns+O P)/\Xi+aK<=Xi+bf/\bn<=Xf+bf*bf):=by
               have aR:=cM.out.2.2 i;have b7:=Nat.mul_le_mul (show((Z.map (aG (h+3) w)).take i).sum<=bf by omega) (show aK<=bf by omega);have cL:=A.fl;have ix:=bN.out;have iY:=A.fe;exact⟨oM,λe=>oH (iY e),oM,lT A.xf oM⟩
              have hj:Hid (∀b1:TypeId,∃bT w',(Builtin.append_ #[25,25] b1 #[J ivo (O au) ivc,J (aS (E (U wr))) 1 1]).run Tryz.prog ((wr.alloc (Ob (bR r mod pos B (J W (O G) X) s t (J u (O L) x) (J y (O N) z) (J ag (O F) ai)) 43)).drew)=.ok bT w'/\∃cc cd,bT=J cc (O au+1) cd/\cz w' mb cy/\w'.heap[E (U d)]? =some (Ob (bR r mod pos B (J W (O G) X) s t (J u (O L) x) (J y (O N) z) (J ag (O F) ai)) 43 (0,0))/\(w'.setCell ⟨mb,3,I⟩ (J cc (O au+1) cd)).heap[E (U d)]? =some (Ob (bR r mod pos B (J W (O G) X) s t (J u (O L) x) (J y (O N) z) (J ag (O F) ai)) 43 (0,0))/\gF w mb M trs au fns Xd Xi Xf Mu H (O P) bf (.returned (.tuple #[])) (w'.setCell ⟨mb,3,I⟩ (J cc (O au+1) cd))):=λb1=>by
               obtain⟨bT,fi,iZ,cc,cd,i0,i1,b2,kb,kd,i2,i3,i4,ke,hk,i5⟩:=hi b1;have cT:=(i5 (E (U d)) hg iX).trans cw;refine⟨bT,fi,iZ,cc,cd,i1,b2,cT,(Below.heap_setCell _ ⟨mb,3,I⟩ _ _ iU).trans cT,?_⟩;refine⟨av,aU,aW,bd,bo,bp,au++[(bR r mod pos B (J W (O G) X) s t (J u (O L) x) (J y (O N) z) (J ag (O F) ai)).toList],cc,cd,i0,max bj (bQ+1),Xi+aK,bn,Q,gM.out,?_,(bb.out A.kx).1.1.1.drew.trans (i2.mono (λb p c=>(es.out A).1 b p c) (bb.out A.kx).1.1.1.size),λb c=>i3 b (A.m1 b (.inl (.inl c))),λb p c=>(es.out A).1 b p (i4 b (Nat.lt_of_lt_of_le p (bb.out A.kx).1.1.1.size) c),A.hf,lT A.hH (Nat.le_max_left _ _),sQ,eu.out.1,eu.out.2.1,eu.out.2.2.1,eu.out.2.2.2⟩;have i6:O (au++[(bR r mod pos B (J W (O G) X) s t (J u (O L) x) (J y (O N) z) (J ag (O F) ai)).toList])=O au+1:=sQ;rw[i6];rw[dV] at hk;exact hk
              clear hi hh;have dX:Hid (∀{bV:World},bV.heap[E (U d)]? =some (Ob (bR r mod pos B (J W (O G) X) s t (J u (O L) x) (J y (O N) z) (J ag (O F) ai)) 43 (0,0))->(Ce bV (E (U d)) (bR r mod pos B (J W (O G) X) s t (J u (O L) x) (J y (O N) z) (J ag (O F) ai)))):=λ{bV} aR=>λj=>cell_of_row bV _ j _ 43 (0,0) aR;have KB:Hid (∀{bV:World},Below (E (U wr)) wr bV->(Ce bV (E (U d)) (bR r mod pos B (J W (O G) X) s t (J u (O L) x) (J y (O N) z) (J ag (O F) ai)))):=λ{bV} c=>dX.out ((c.block _ hg).trans cw);go_upto_region 31 with fail
              refine wp_region_noPanic ?_;refine wp_region_held_drew (S:=(λbV=>(Ce bV (E (U d)) (bR r mod pos B (J W (O G) X) s t (J u (O L) x) (J y (O N) z) (J ag (O F) ai))))) kQ ?_ (λhHeld=>?_)
              ·(try dsimp only)
               (first|assumption|exact KB.out ((Below.refl _ _).drew)|exact KB.out ((al1 _ _).1.drew)|exact KS10|exact KS11)
              refine aM 0 ?_;refine aM 1 ?_;refine aM 2 ?_;refine aM 3 ?_;refine aM 4 ?_;refine aM 6 ?_;refine pM 5 7 (λK hK=>?_) (λK hK=>?_)
              ·go_simp;refine dH hK ?_;clear hK K hHeld;intro hHeld;refine eA 7 (λK hK=>?_);go_simp;refine dH hK ?_;clear hK K hHeld;intro hHeld;refine eA 8 (λK hK=>?_)
               (refine bg 25 (v:=J ivo (O au) ivc) (xv:=J (aS (E (U wr))) 1 1) rQ rQ rQ rQ (hj.out _) ?_;rintro bT fi ⟨cc,cd,rfl,b2,cT,fj,fk⟩;have KS10:=dX.out cT;have KS11:=dX.out fj;have i7:=b2.cell;have eQ:=b2.fz;have i8:=b2.lt)
               refine dH hK ?_;clear hK K hHeld;intro hHeld;refine aM 9 ?_;refine aM 10 ?_;refine aM 11 ?_;refine eA 12 (λK hK=>?_);go_simp;refine dH hK ?_;clear hK K hHeld;intro hHeld;refine wpAnyH_done kQ ?_ _;refine NoPanic.normal ?_;go_wp2_with fail;go_end0;exact fk
              ·go_simp;refine dH hK ?_;clear hK K hHeld;intro hHeld;refine eA 5 (λK hK=>?_);go_simp;refine dH hK ?_;clear hK K hHeld;intro hHeld;refine eA 8 (λK hK=>?_)
               (refine bg 25 (v:=J ivo (O au) ivc) (xv:=J (aS (E (U wr))) 1 1) rQ rQ rQ rQ (hj.out _) ?_;rintro bT fi ⟨cc,cd,rfl,b2,cT,fj,fk⟩;have KS10:=dX.out cT;have KS11:=dX.out fj;have i7:=b2.cell;have eQ:=b2.fz;have i8:=b2.lt)
               refine dH hK ?_;clear hK K hHeld;intro hHeld;refine aM 9 ?_;refine aM 10 ?_;refine aM 11 ?_;refine eA 12 (λK hK=>?_);go_simp;refine dH hK ?_;clear hK K hHeld;intro hHeld;refine wpAnyH_done kQ ?_ _;refine NoPanic.normal ?_;go_wp2_with fail;go_end0;exact fk
       ·have co:(gi==0)=false:=sU eT;go_wp2_with (go_at_call 30;refine(bM dm.s.mk').mono ?_;rintro aZ aD ⟨rfl,o⟩;replace o:=o.symm;subst o)
        go_end0;exact cn.out dm (lR _) eT
      ·have co:(d9==0)=false:=sU eO;go_wp2_with (go_at_call 30;refine(bM ap.s.mk').mono ?_;rintro aZ aD ⟨rfl,o⟩;replace o:=o.symm;subst o)
       go_end0;exact cn.out ap (lR _) eO
    ·have kf:(f2==2)=false:=sU f5
     go_wp2_with (first
      |(go_at_call 39;refine(bU ap.s.mk' _ _).mono ?_;rintro bw de ⟨⟨a7,ca,rfl,a8,a1,bB⟩,bC⟩;have a2:=ap.no a1 a8 bB;have ba:a7≠0:=(by obtain⟨df,dg,dh,bD⟩:=bC dC;have:=cz.inj a8 bD;simp at this;omega);have co:(a7==0)=false:=(sU ba))
      |(go_at_call 30;refine(bM a2.s.mk').mono ?_;rintro aZ aD ⟨rfl,o⟩;replace o:=o.symm;subst o))
     go_end0;exact cn.out a2 (lR _) ba
  ·have kg:(e==0)=false:=sU eN
   go_wp2_with (first
    |(go_at_call 39;refine(bU ap.s.mk' _ _).mono ?_;rintro bw de ⟨⟨a7,ca,rfl,a8,a1,bB⟩,bC⟩;have a2:=ap.no a1 a8 bB;have ba:a7≠0:=(by obtain⟨df,dg,dh,bD⟩:=bC eN;have:=cz.inj a8 bD;simp at this;omega);have co:(a7==0)=false:=(sU ba))
    |(go_at_call 30;refine(bM a2.s.mk').mono ?_;rintro aZ aD ⟨rfl,o⟩;replace o:=o.symm;subst o))
   go_end0;exact cn.out a2 (lR _) ba
end
section
variable{e:Ending} {x:List Value} {M:MK} {F H N Xd Xf Xi Y b h kl mb:Nat} {Mu:Nat->Prop} {fns au trs:VV} {w w':World}
theorem gF.kx (h:gF w mb M trs au fns Xd Xi Xf Mu H kl N e w'):KX Mu (E (U w)) w w':=by
 obtain⟨_,_,_,_,_,_,_,_,_,_,_,_,_,_,_,_,c,_⟩:=h;exact c
theorem mF {S:Nat->Prop} {g:Prop} (c:isNode S g h w x):1<=aG h w x:=by
 cases h with
 |zero=>exact absurd c (λx=>x)
 |succ h=>
  show 1<=1+_;omega
theorem kT {l:List Nat} (h:∀x∈l,1<=x):O l<=l.sum:=by
 induction l with
 |nil=>simp
 |cons x i c=>
  rw[List.length_cons,List.sum_cons];have j:=h x (List.mem_cons_self ..);have m:=c (λd f=>h d (List.mem_cons_of_mem _ f));omega
theorem fR {c:Type} {f g:c->Nat} {l:List c} (h:∀x∈l,f x<=g x) (i:Nat):((l.map f).take i).sum<=((l.map g).take i).sum:=by
 induction l generalizing i with
 |nil=>simp
 |cons x n d=>
  cases i with
  |zero=>simp
  |succ i=>
   rw[List.map_cons,List.map_cons,List.take_succ_cons,List.take_succ_cons,List.sum_cons,List.sum_cons];have o:=h x (List.mem_cons_self ..);have p:=d (λj m=>h j (List.mem_cons_of_mem _ m)) i;omega
theorem ke {B0:Nat} (c:isNode (λb=>b<B0) True (h+2) w x):bB x<=aG (h+2) w x:=by
 obtain⟨k,p,q,r,s,t,l,u,rfl,-⟩:=isNode.cells c;obtain⟨d,rfl,-,f,-,i,-⟩:=c.kids;have j:=kT (l:=d.map (aG (h+1) w)) (λx m=>by obtain⟨n,o,rfl⟩:=List.mem_map.1 m;exact mF (f n o));rw[List.length_map] at j;rw[i];show(if k=8 then 1 else if k=7 then O d - 2 else 0)<=_;split
 ·omega
 ·split
  ·omega
  ·omega
theorem ux {a c:Nat} (d:1<=c) (h:a<=b+F*c):a+Y<=b+(F+Y)*c:=by
 rw[Nat.add_mul];have f:Y<=Y*c:=Nat.le_mul_of_pos_right _ d;generalize F*c=i at*;generalize Y*c=j at*;omega
theorem vB {a:Nat} (h:a<=b+F*96100):a+Y<=b+(F+Y)*96100:=ux dC h
structure FE (w:World) (mb:Nat) (M:MK) (trs au fns:VV) (Xd Xi Xf:Nat) (Mu:Nat->Prop) (H:Nat) (C Iz F:Nat) (wr:World) (k a:Int) (ds:List Dd) (fns':VV) (fo:OA) (fc:Nat) (ims':VV) (io:OA) (ic:Nat) (Mu':Nat->Prop) (H' Xi' Xf':Nat):Prop where
 s:MS wr mb ({M with ds:=ds,fv:=J fo (O fns') fc,iv:=J io (O ims') ic}.bu k a) trs ims' fns' Xd Xi' Xf' Mu' H'
 dl:O ds=O M.ds
 kx:KX Mu (E (U w)) w wr
 m1:∀b,Mu b->Mu' b
 m2:∀b,b<E (U w)->Mu' b->Mu b
 hf:M.fk≠0->k=M.fk
 hH:H<=H'
 il:O ims'<=O au+Iz
 fl:O fns'<=O fns+C
 fe:k=0->O fns'=O fns+C
 xi:Xi'<=Xi+F
 xf:Xf'<=Xf+F*96100
section
variable{w wr w':World} {mb:Nat} {M:MK} {trs au fns:VV} {Xd Xi Xf:Nat} {Mu:Nat->Prop} {H:Nat} {C Iz F:Nat} {k a:Int} {ds:List Dd} {fns':VV} {fo:OA} {fc:Nat} {ims':VV} {io:OA} {ic:Nat} {Mu':Nat->Prop} {H' Xi' Xf':Nat}
theorem FE.below (q:FE w mb M trs au fns Xd Xi Xf Mu H C Iz F wr k a ds fns' fo fc ims' io ic Mu' H' Xi' Xf') (c:Below (E (U wr)) wr w'):FE w mb M trs au fns Xd Xi Xf Mu H C Iz F w' k a ds fns' fo fc ims' io ic Mu' H' Xi' Xf':=
 ⟨q.s.below c,q.dl,q.kx.trans ((KX.al c).mono (λ_ _ h=>h) q.kx.size),q.m1,q.m2,q.hf,q.hH,q.il,q.fl,q.fe,q.xi,q.xf⟩
theorem FE.skip (q:FE w mb M trs au fns Xd Xi Xf Mu H C Iz F wr k a ds fns' fo fc ims' io ic Mu' H' Xi' Xf') (n:Nat):FE w mb M trs au fns Xd Xi Xf Mu H C (Iz+1) (F+n) wr k a ds fns' fo fc ims' io ic Mu' H' Xi' Xf':=by
 have c:=q.il;have d:=q.xi;have f:=q.xf;exact⟨q.s,q.dl,q.kx,q.m1,q.m2,q.hf,q.hH,oM,q.fl,q.fe,oM,lT q.xf (Nat.add_le_add_left (Nat.mul_le_mul_right 96100 (Nat.le_add_right F n)) Xf)⟩
theorem FE.impl (q:FE w mb M trs au fns Xd Xi Xf Mu H C Iz F wr k a ds fns' fo fc ims' io ic Mu' H' Xi' Xf') (z:gF wr mb ({M with ds:=ds,fv:=J fo (O fns') fc,iv:=J io (O ims') ic}.bu k a) trs ims' fns' Xd Xi' Xf' Mu' H' kl N e w') (y:k=0) (V:2<=kl) (A:N<=96100):
 ∃d f i j l m n o p r s t u,e=.returned (.tuple #[])/\FE w mb M trs au fns Xd Xi Xf Mu H (C+(kl - 2)) (Iz+1) (F+N) w' d f i j l m n o p r s t u:=by
 obtain⟨d,f,i,j,l,m,n,o,p,r,s,t,u,B,D,G,K,L,P,W,R,X,Z,S,aa,ab⟩:=z;have T:=q.kx.size;have ac:=q.il;have ad:=q.fl;have ae:=q.fe y;have af:=q.xi;have ag:=q.xf;have ah:N*N<=N*96100:=Nat.mul_le_mul_left _ A;refine⟨d,f,i,j,l,m,n,o,p,r,s,t,u,B,⟨G,D.trans q.dl,q.kx.trans (K.mono (λb v c=>q.m2 b v c) T),λb c=>L b (q.m1 b c),λb v c=>q.m2 b v (P b oM c),λh=>absurd (q.hf h) (by rw[y];exact λe=>h e.symm),lT q.hH R,oM,oM,λe=>oH (S e),oM,oM⟩⟩
def uk (w:World) (mb:Nat) (M:MK) (trs au fns:VV) (Xd Xi Xf:Nat) (Mu:Nat->Prop) (H C Iz F:Nat) (e:Ending) (w':World):Prop:=
 ∃(fn:Int) (C':Nat) (k a:Int) (ds:List Dd) (fns':VV) (fo:OA) (fc:Nat) (ims':VV) (io:OA) (ic:Nat) (Mu':Nat->Prop) (H' Xi' Xf':Nat),e=.returned (vN fn)/\C'<=C/\(k=0->C'=C)/\FE w mb M trs au fns Xd Xi Xf Mu H C' Iz F w' k a ds fns' fo fc ims' io ic Mu' H' Xi' Xf'
end
end
section
variable{B0 h kc:Nat} {ko:OA} {ks mks:VV} {W w:World}
structure oh (h B0:Nat) (w:World) (ko:OA) (kc:Nat) (mks:VV) (kss:List VV):Prop where
 row:cU B0 w (J ko (O mks) kc) mks
 jq:∀i,i<O mks->∃g,ko=some ⟨g,0,I⟩
 len:O kss=O mks
 it:∀(i:Nat) (ks:VV),kss[i]? =some ks->∃p1 n1 m1 s1 o1 c1,mks[i]? =some (ae 1 p1 n1 m1 s1 (J o1 (O ks) c1)).toList/\cU B0 w (J o1 (O ks) c1) ks/\(∀i,i<O ks->∃g,o1=some ⟨g,0,I⟩)/\(∀x∈ks,isNode (λb=>b<B0) True (h+4) w x)/\∀x∈ks.map az,x=2\/x=3\/x=6\/x=7\/x=108
 sum:(kss.map (λks=>(ks.map (aG (h+4) w)).sum)).sum<=96100
theorem oh.of {pos n m:Int} {name:ByteArray} {kl:Nat} (c:isNode (λb=>b<E (U w)) True (h+6) w (ae 0 pos n m name (J ko kl kc)).toList) (d:aG (h+6) w (ae 0 pos n m name (J ko kl kc)).toList<=96100):∃mks a,kl=O mks/\oh h (E (U w)) w ko kc mks a:=by
 obtain⟨mks,rfl,e,f,i,j,-,k,-,-⟩:=c.kids;obtain⟨a,l,o,q⟩:=nM f (i.prog Q);have p:aG (h+6) w (ae 0 pos n m name (J ko (O mks) kc)).toList=1+(mks.map (aG (h+5) w)).sum:=j;rw[p] at d;exact⟨mks,a,Q,e,k,l,o,oM⟩
theorem jA {S:Nat->Prop} (a:aq S w W) (b:∀x∈ks,isNode S True h w x):(ks.map (aG h W)).sum=(ks.map (aG h w)).sum:=congrArg List.sum (List.map_congr_left (λx c=>aT a _ _ (b x c) _))
theorem oh.frame {kss:List VV} (t:oh h B0 w ko kc mks kss) (a:aq (λb=>b<B0) w W) (f:B0<=E (U w)):oh h B0 W ko kc mks kss:=by
 refine⟨t.row.frame a f,t.jq,t.len,λc ks d=>?_,?_⟩
 ·obtain⟨i,j,k,l,m,n,o,p,q,e,r⟩:=t.it c ks d;exact⟨i,j,k,l,m,n,o,p.frame a f,q,λs u=>isNode.frame a _ _ (e s u),r⟩
 ·have v:kss.map (λks=>(ks.map (aG (h+4) W)).sum)=kss.map (λks=>(ks.map (aG (h+4) w)).sum):=List.map_congr_left (λks x=>by
   obtain⟨c,d⟩:=List.mem_iff_getElem?.1 x;obtain⟨i,j,k,l,m,n,o,p,q,e,r⟩:=t.it c ks d;exact jA a e)
  rw[v];exact t.sum
theorem jd {f:List Value->Nat} {g:List Value->Nat}:∀{kss:List VV},(∀ks∈kss,∀a∈ks,f a<=g a)->(kss.flatten.map f).sum<=(kss.map (λks=>(ks.map g).sum)).sum
 |[],_=>lR _
 |ks::kss,h=>by
  rw[List.flatten_cons,List.map_append,List.sum_append,List.map_cons,List.sum_cons];have i:=jd (f:=f) (g:=g) (kss:=kss) (λb c=>h b (List.mem_cons_of_mem _ c));have d:=fR (f:=f) (g:=g) (l:=ks) (λa e=>h ks (List.mem_cons_self ..) a e) (O ks);rw[List.take_of_length_le sQ,List.take_of_length_le sQ] at d;omega
theorem oh.node {kss:List VV} (t:oh h B0 w ko kc mks kss):∀ks∈kss,∀a∈ks,isNode (λb=>b<B0) True (h+4) w a:=λks c a d=>by
 obtain⟨e,f⟩:=List.mem_iff_getElem?.1 c;obtain⟨j,k,l,m,n,o,p,q,r,i,s⟩:=t.it e ks f;exact i a d
theorem oh.fns {kss:List VV} (t:oh h B0 w ko kc mks kss):(kss.flatten.map bB).sum<=96100:=lT (jd (λks a b c=>ke (h:=h+2) (t.node ks a b c))) t.sum
theorem oh.bj {kss:List VV} (t:oh h B0 w ko kc mks kss):O kss.flatten<=96100:=by
 have d:=jd (f:=λ_=>1) (g:=aG (h+4) w) (kss:=kss) (λks a b c=>mF (t.node ks a b c))
 have e:(kss.flatten.map (λ_=>1)).sum=O kss.flatten:=by
  rw[List.map_const',List.sum_replicate_nat,Nat.mul_one]
 have i:=t.sum;omega
theorem iY:∀{b:List Nat} {c:Nat},c∈b->c<=b.sum
 |[],_,h=>by simp at h
 |a::b,c,h=>by
  rw[List.sum_cons];rcases List.mem_cons.1 h with h|h
  ·omega
  ·have:=iY h;omega
theorem oh.small {kss:List VV} (t:oh h B0 w ko kc mks kss):∀ks∈kss,∀a∈ks,aG (h+4) w a<=96100:=λks b a c=>by
 have d:=iY (List.mem_map_of_mem (f:=aG (h+4) w) c);have e:=iY (List.mem_map_of_mem (f:=(λks=>(ks.map (aG (h+4) w)).sum)) b);have i:=t.sum;exact lT d (lT e i)
theorem rX {kss:List VV} (t:oh h B0 w ko kc mks kss) {i:Nat} (c:kss[i]? =some ks):((kss.take (i+1)).flatten.map bB).sum=((kss.take i).flatten.map bB).sum+(ks.map bB).sum/\O (kss.take (i+1)).flatten=O (kss.take i).flatten+O ks/\((kss.take (i+1)).map (λks=>(ks.map (aG (h+4) w)).sum)).sum=((kss.take i).map (λks=>(ks.map (aG (h+4) w)).sum)).sum+(ks.map (aG (h+4) w)).sum/\((kss.take (i+1)).map (λks=>(ks.map (aG (h+4) w)).sum)).sum<=96100/\O (kss.take (i+1)).flatten<=96100/\(ks.map bB).sum<=(ks.map (aG (h+4) w)).sum/\((kss.take i).flatten.map bB).sum<=((kss.take i).map (λks=>(ks.map (aG (h+4) w)).sum)).sum:=by
 have d:kss.take (i+1)=kss.take i++[ks]:=by rw[List.take_add_one,c];rfl
 have e:(kss.take (i+1)).flatten=(kss.take i).flatten++ks:=by rw[d,List.flatten_append];simp
 have k:=bL (kss.map (λks=>(ks.map (aG (h+4) w)).sum)) (i+1);rw[<-List.map_take] at k;have r:=t.sum;have m:kss.flatten=(kss.take (i+1)).flatten++(kss.drop (i+1)).flatten:=by rw[<-List.flatten_append,List.take_append_drop]
 have n:=t.bj;rw[m,List.length_append] at n;have j:=fR (f:=bB) (g:=aG (h+4) w) (l:=ks) (λa b=>ke (h:=h+2) (t.node ks (mG c) a b)) (O ks);rw[List.take_of_length_le sQ,List.take_of_length_le sQ] at j;have o:=jd (f:=bB) (g:=aG (h+4) w) (kss:=kss.take i) (λp q a b=>ke (h:=h+2) (t.node p (List.mem_of_mem_take q) a b));refine⟨by rw[e,List.map_append,List.sum_append],by rw[e,List.length_append],?_,oM,oM,j,o⟩;rw[d,List.map_append,List.sum_append];simp
end
theorem gx {e:Func} (m:e.results=#[.cell 2 29,.cell 3 32]) {a:Array Value} {b c:Nat} (n:a.getD 2 undef=.pointer (aS b)) (o:a.getD 3 undef=.pointer (aS c)) {W:World} {c0 c1 c2 c3 f i j k l:Value} (p:W.heap[b]? =some (Ob #[c0,c1,c2,c3,f,i,j] 29 (0,0))) (q:W.heap[c]? =some (Ob #[k,l] 32 (0,0))):
 (results e a).run Tryz.prog W=.ok (.tuple #[.agg #[c0,c1,c2,c3,f,i,j],.agg #[k,l]]) W:=by
 have r:=λd=>cell_of_row W b d _ 29 (0,0) p;have s:=λd=>cell_of_row W c d _ 32 (0,0) q;have t:a[2]?.getD undef=.pointer (aS b):=sU n;have u:a[3]?.getD undef=.pointer (aS c):=sU o;simp[results,m,t,u,go_sem,r,s]
theorem PG.of {w:World} {u:Nat} {M:MK} {i k a:Int} {v c d:VV} {j l m:Nat} {t:Nat->Prop} {H:Nat} {n:OA} {o:Nat} {fo:OA} {fc:Nat} (s:MS w u ({M with mn:=i}.bu k a) v c d j l m t H) (V:j<=96101) (W:O d<=96100) (X:O c<=96100) (Y:l<=96100) (Z:m<=96100*96100) (x:M.iv=J n (O c) o) (y:M.fv=J fo (O d) fc):∃z H:Nat,PG w z H M.df M.eo M.ds n o c fo fc d j l m:=by
 have p:∀b,¬t b->b<E (U w)->b<E (U w):=λb _ h=>h;have sl:=s.le (H':=H+1) (Nat.le_succ _);obtain⟨A,B,C,D⟩:=sl.jR;have f:=s.im;have q:=s.fn;have F:({M with mn:=i}.bu k a).iv=J n (O c) o:=x;have G:({M with mn:=i}.bu k a).fv=J fo (O d) fc:=y;rw[F] at f;rw[G] at q;exact⟨O M.ds,H+1,ro.bH s.pi.cd (λb e=>(s.pi.cd.lt b e).2),ro.bH f (λb e=>(f.lt b e).2),ro.bH q (λb e=>(q.lt b e).2),⟨A,B,C,λK L N P R=>(D K L N P R).weaken p⟩,sl.lN.imp (λS T r=>r.weaken p),sl.lD.imp (λS T r=>r.weaken p),⟨s.pi.bj.2.1,oM,oM⟩,oM,oM,pQ f⟩
end Go.Proofs.YtdghkacbpebcoaaGreat
