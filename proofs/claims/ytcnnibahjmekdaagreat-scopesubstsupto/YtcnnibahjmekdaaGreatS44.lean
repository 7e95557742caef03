import Derived.Test.YtcnnibahjmekdaaGreatS43
namespace Go.Proofs.YtcnnibahjmekdaaGreat
open Go.RowKit
open Value renaming slice→J
open List renaming length→O
open Option renaming none→I
open World renaming heap→U
open _root_.Array renaming size→E
open Obj renaming cells→Ob
set_option linter.all false
set_option maxRecDepth 100000
set_option maxHeartbeats 0
section
variable{a k:Int} {ds:List Dd} {M:MK} {F H H' Xd Xd' Xf Xi mb:Nat} {Mu:Nat->Prop} {fns ims trs:VV} {w wr:World}
structure DE (w:World) (mb:Nat) (M:MK) (trs ims fns:VV) (Xd Xi Xf:Nat) (Mu:Nat->Prop) (H F:Nat) (wr:World) (k a:Int) (ds:List Dd) (H' Xd':Nat):Prop where
 s:MS wr mb ({M with ds:=ds}.bt k a) trs ims fns Xd' Xi Xf Mu H'
 dl:O ds=O M.ds
 kx:KX Mu (E (U w)) w wr
 hH:H<=H'
 hf:M.fk≠0->k=M.fk
 xd:Xd'<=Xd+F
theorem DE.below {w':World} (q:DE w mb M trs ims fns Xd Xi Xf Mu H F wr k a ds H' Xd') (b:Below (E (U wr)) wr w'):DE w mb M trs ims fns Xd Xi Xf Mu H F w' k a ds H' Xd':=
 ⟨q.s.below b,q.dl,q.kx.trans ((KX.aq b).mono (λ_ _ h=>h) q.kx.size),q.hH,q.hf,q.xd⟩
theorem DE.more {b:Nat} (q:DE w mb M trs ims fns Xd Xi Xf Mu H F wr k a ds H' Xd') (hF:F<=b):DE w mb M trs ims fns Xd Xi Xf Mu H b wr k a ds H' Xd':=
 ⟨q.s,q.dl,q.kx,q.hH,q.hf,lT q.xd oM⟩
theorem vC {h:Nat} (hS:MS w mb M trs ims fns Xd Xi Xf Mu H) {mod:Nat} {md:Md} (eZ:M.ms[mod]? =some md) {B0:Nat} (c1:∀b,Mu b->B0<=b) (gq:B0<=E (U w)) {pos n m:Int} {name:ByteArray} {ko:OA} {kc:Nat} {ks:VV} (bA:cZ B0 w (J ko (O ks) kc) ks) (e0:∀i,i<O ks->∃g,ko=some ⟨g,0,I⟩) (c2:∀x∈ks,isNode (λb=>b<B0) True (h+4) w x) (e1:M.fk=0->∀(p n m:Int) (s:ByteArray) (kv:Value),(ae 3 p n m s kv).toList∈ks->∀r∈md.ns.take md.own,r.name.toList=s.toList->r.sort=0):
 Calls Tryz.prog 29 #[.pointer (some ⟨mb,0,I⟩),.int .i64 mod,.agg (ae 1 pos n m name (J ko (O ks) kc))] w (uE w mb M trs ims fns Xd Xi Xf Mu H (ks.map (aG (h+4) w)).sum):=by
 have gr:B0<=mb:=c1 mb hS.dT;have iE:=bA.len.2;obtain⟨dH,e2⟩:=al1 w (Ob (ae 1 pos n m name (J ko (O ks) kc)) 46)
 have gs:Hid (∀aE,aE<O ks->∃g a8 L C B z bs bB G,ko=some ⟨g,0,I⟩/\g<B0/\ks[aE]? =some (ae a8 L C B z (J bs bB G)).toList/\∀e:World,KX Mu (E (U w)) w e->(∀j,j<11->e.cell? ⟨g,aE*11+j,I⟩=(ae a8 L C B z (J bs bB G)).toList[j]?)/\isNode (λb=>b<B0) True (h+4) e (ae a8 L C B z (J bs bB G)).toList/\aG (h+4) e (ae a8 L C B z (J bs bB G)).toList=aG (h+4) w (ae a8 L C B z (J bs bB G)).toList):=by
  intro aE cc;obtain⟨x,aV⟩:∃x,ks[aE]? =some x:=⟨_,gG cc⟩;have dI:=mG aV;obtain⟨a8,L,C,B,z,bs,bB,G,rfl,-⟩:=isNode.cells (c2 x dI);obtain⟨g,aJ⟩:=e0 aE cc
  have dJ:g<B0:=by
   obtain⟨c3,d,bD,dJ,-⟩:=bA.nth aV;rw[aJ] at bD;simp at bD;omega
  refine⟨g,a8,L,C,B,z,bs,bB,G,aJ,dJ,aV,λe bi=>?_⟩;have a4:al (λb=>b<B0) w e:=λb y bp=>bi.block b bp (λaM=>oH (c1 b aM));obtain⟨c3,d,bD,-,bt⟩:=(bA.frame a4 gq).nth aV;rw[aJ] at bD;obtain⟨rfl,rfl⟩:g=c3/\d=0:=by simp at bD;exact⟨bD.1,bD.2.symm⟩
  refine⟨λj b2=>?_,isNode.frame a4 _ _ (c2 _ dI),aQ a4 _ _ (c2 _ dI) _⟩;have:=bt j b2;rw[Nat.zero_add] at this;exact this
 have bU:Hid (MS w mb M trs ims fns Xd Xi Xf Mu H/\Below (E (U w)) w (w.alloc (Ob (ae 1 pos n m name (J ko (O ks) kc)) 46))/\(∀b,Mu b->B0<=b)/\(∀b,Mu b->b<E (U w))/\M.ms[mod]? =some md/\(M.fk=0->∀(p n m:Int) (s:ByteArray) (kv:Value),(ae 3 p n m s kv).toList∈ks->∀r∈md.ns.take md.own,r.name.toList=s.toList->r.sort=0)):=⟨hS,dH,c1,hS.mlt,eZ,e1⟩;have gt:Hid (∀{i:Nat} {x:List Value},ks[i]? =some x->(ks.map (aG (h+4) w))[i]? =some (aG (h+4) w x)):=λ{i x} aV=>by rw[List.getElem?_map,aV];rfl
 obtain⟨bj,gu⟩:∃g,M.cV=some ⟨g,0,I⟩:=by
  have bu:=hS.pi.bB.1;obtain⟨bq,gv⟩:∃bq,M.ds[0]? =some bq:=⟨_,gG oM⟩;obtain⟨g,aJ,-⟩:=hS.pi.data gv;exact⟨g,aJ⟩
 have dK:DE (w.alloc (Ob (ae 1 pos n m name (J ko (O ks) kc)) 46)) mb M trs ims fns Xd Xi Xf Mu H 0 (w.alloc (Ob (ae 1 pos n m name (J ko (O ks) kc)) 46)) M.fk M.fa M.ds H Xd:=⟨hS.below dH,Q,KX.refl _ _ _,lR _,λ_=>rfl,lR _⟩;obtain⟨ce,cz⟩:∃ce,ce=w.alloc (Ob (ae 1 pos n m name (J ko (O ks) kc)) 46):=⟨_,Q⟩;have iF:E (U ce)=E (U w)+1:=by rw[cz];simp
 have bV:Hid (∀{e:World},KX Mu (E (U ce)) ce e->KX Mu (E (U w)) w e/\e.heap[E (U w)]? =some (Ob (ae 1 pos n m name (J ko (O ks) kc)) 46 (0,0))):=λ{e} bi=>by
  rw[cz] at bi;refine⟨(KX.aq bU.out.2.1).trans (bi.mono (λ_ _ h=>h) sQ),(bi.block _ sQ (λaM=>?_)).trans e2⟩;have:=bU.out.2.2.2.1 _ aM;omega
 rw[<-cz] at dK;clear hS c1 e1 bA e0 c2 eZ dH e2;go_enter Tryz.func29,Tryz.ntmps29
 go_wp2_with fail;rw[<-cz];clear cz;go_loopg [7,8,9,10,11,13,15,16,18,20,24] (O ks) (λbW _ _ _ _ _ _ _ _ _ _ bO wr=>∃(aE:Nat) (k a:Int) (ds:List Dd) (H' Xd':Nat),bW=O ks - aE/\bO=.int .i64 aE/\aE<=O ks/\DE ce mb M trs ims fns Xd Xi Xf Mu H ((ks.map (aG (h+4) w)).take aE).sum wr k a ds H' Xd')
 case atStart=>exact⟨0,M.fk,M.fa,M.ds,H,Xd,Q,Q,zL _,by rw[List.take_zero,List.sum_nil];exact dK⟩
 case round=>
  clear dK;obtain⟨aE,k,a,ds,H',Xd',bk,rfl,iG,a9⟩:=hrel;have dM:Hid (gk=O ks - aE):=bk;clear bk;have e3:=λd=>cell_of_row wr _ d _ 46 (0,0) (bV.out a9.kx).2;have e4:E (U w)<E (U wr):=(gE (bV.out a9.kx).2).1;by_cases cc:aE<O ks
  ·have gw:(aE:Int)<(O ks:Int):=oM;obtain⟨g,a8,L,C,B,z,bs,bB,G,aJ,dJ,dN,dO⟩:=gs.out aE cc;obtain rfl:ko=some ⟨g,0,I⟩:=aJ;have e5:=dO wr (bV.out a9.kx).1;have b3:g<E (U wr):=oH (bV.out a9.kx).1.size;have e6:=qt e5.1;have dP:Hid ((ks.map (aG (h+4) w))[aE]? =some (aG (h+4) w (ae a8 L C B z (J bs bB G)).toList)):=gt.out dN;have gx:Hid (ks[aE]? =some (ae a8 L C B z (J bs bB G)).toList):=dN;have bP:=a9.below (al1 wr (Ob (ae a8 L C B z (J bs bB G)) 46)).1;clear e5 dN;by_cases e7:a8=3
   ·subst e7;by_cases cA:k=0
    ·subst cA;obtain⟨R,rfl,c4,c5,e8,e9,-,e',iH,-⟩:=(dO wr (bV.out a9.kx).1).2.1.kids;obtain⟨iI,fa,fb⟩:=e8.data Q;obtain⟨fc,aj,cB,fd,fe⟩:=List.map_eq_cons_iff.1 fa;have iJ:=c4.len.2
     have b4:Hid (O R=O aj+1):=by
      show O R=_;rw[cB];rfl
     have c6:R[0]? =some fc:=by rw[cB];rfl
     have dQ:=c5 fc (mG c6);obtain⟨gz,c7,cC,cq,c8,c9,gA,c',rfl,-⟩:=isNode.cells dQ;obtain rfl:gz=9:=dG (n:=cC) (l:=gA) fd dC;obtain⟨cD,rfl,-,-,ff,-⟩:=dQ.kids;have iK:O cD<=6100:=by have:=(ff.cL Q).1;simpa using this
     obtain⟨u,gB⟩:=e' 0 (oH b4.out);obtain rfl:bs=some ⟨u,0,I⟩:=gB;have dS:B0<=E (U wr):=oH (bV.out a9.kx).1.size
     have dT:Hid (∀{i:Nat} {x:List Value},R[i]? =some x->u<B0/\∀e:World,al (λb=>b<B0) wr e->(∀j,j<11->e.cell? ⟨u,i*11+j,I⟩=x[j]?)/\isNode (λb=>b<B0) True (h+3) e x):=λ{i x} aV=>by
      obtain⟨c3,d,bD,gC,-⟩:=c4.nth aV;obtain⟨rfl,rfl⟩:u=c3/\d=0:=by simp at bD;exact⟨bD.1,bD.2.symm⟩
      refine⟨gC,λe a4=>⟨λj b2=>?_,isNode.frame a4 _ _ (c5 x (mG aV))⟩⟩;obtain⟨gD,d,dU,-,bt⟩:=(c4.frame a4 dS).nth aV;obtain⟨rfl,rfl⟩:u=gD/\d=0:=by simp at dU;exact⟨dU.1,dU.2.symm⟩
      have:=bt j b2;rw[Nat.zero_add] at this;exact this
     have bv:Hid (∀{e:World},al (λb=>b<B0) wr e->(∀j,j<11->e.cell? ⟨u,j,I⟩=(ae 9 c7 cC cq c8 (J c9 (O cD) c')).toList[j]?)/\isNode (λb=>b<B0) True (h+3) e (ae 9 c7 cC cq c8 (J c9 (O cD) c')).toList):=λ{e} a4=>by
      have a5:=(dT.out c6).2 e a4;exact⟨λj b2=>by have:=a5.1 j b2;simpa using this,a5.2⟩
     have iL:u<B0:=(dT.out c6).1
     have gF:Hid (∀j,j<O aj->∃(a' a6 a1:Int) (ab:ByteArray) (a7:OA) (N:VV) (ba:Nat),(aj.map (aG (h+3) wr))[j]? =some (aG (h+3) wr (ae 4 a' a6 a1 ab (J a7 (O N) ba)).toList)/\O N<=20000/\aG (h+3) wr (ae 4 a' a6 a1 ab (J a7 (O N) ba)).toList=1+(N.map (aG (h+2) wr)).sum/\(∀e:World,al (λb=>b<B0) wr e->∀i,i<11->e.cell? ⟨u,11+j*11+i,I⟩=(ae 4 a' a6 a1 ab (J a7 (O N) ba)).toList[i]?)/\∀i,i<O N->∃(aY:Nat) (ac aa Y:Int) (q:ByteArray) (c X:Nat) (W ak ad ao:Int) (ap:ByteArray) (aq:OA) (ah ar:Nat),a7=some ⟨aY,0,I⟩/\aY<B0/\c<B0/\(N.map (aG (h+2) wr))[i]? =some (aG (h+2) wr (ae 5 ac aa Y q (J (some ⟨c,0,I⟩) 1 X)).toList)/\cH W/\∀e:World,al (λb=>b<B0) wr e->(∀d,d<11->e.cell? ⟨aY,i*11+d,I⟩=(ae 5 ac aa Y q (J (some ⟨c,0,I⟩) 1 X)).toList[d]?)/\(∀d,d<11->e.cell? ⟨c,d,I⟩=(ae W ak ad ao ap (J aq ah ar)).toList[d]?)/\isNode (λb=>b<B0) True (h+1) e (ae W ak ad ao ap (J aq ah ar)).toList/\aG (h+1) e (ae W ak ad ao ap (J aq ah ar)).toList<=aG (h+2) wr (ae 5 ac aa Y q (J (some ⟨c,0,I⟩) 1 X)).toList):=λj b2=>by
      obtain⟨x,aV⟩:∃x,aj[j]? =some x:=⟨_,gG b2⟩;have fg:R[j+1]? =some x:=by rw[cB];exact aV
      have fh:=c5 x (mG fg);obtain⟨fi,a',a6,a1,ab,a7,gH,ba,rfl,-⟩:=isNode.cells fh;have bp:fL fi a6 gH=4:=fb _ (by rw[<-fe];exact List.mem_map_of_mem (f:=aA) (mG aV));obtain rfl:fi=4:=dG bp dC;obtain⟨N,rfl,dW,gI,gK,gL,-,gM,-,-⟩:=fh.kids;refine⟨a',a6,a1,ab,a7,N,ba,by rw[List.getElem?_map,aV];rfl,dW.len.2,gL,λe a4 i cE=>?_,λi cE=>?_⟩
      ·have:=((dT.out fg).2 e a4).1 i cE;rw[show(j+1)*11+i=11+j*11+i by omega] at this;exact this
      ·obtain⟨bE,bX⟩:∃bE,N[i]? =some bE:=⟨_,gG cE⟩;have fj:=gI bE (mG bX);obtain⟨fk,ac,aa,Y,q,gN,gP,X,rfl,-⟩:=isNode.cells fj;have gQ:fL fk aa gP=5:=gK.variant Q _ (List.mem_map_of_mem (f:=aA) (mG bX));obtain rfl:fk=5:=dG gQ dC;obtain⟨fl,rfl,fm,gR,gT,gU,-,gV,-,-⟩:=fj.kids;obtain⟨dX,da,gW⟩:=gT.field Q
       obtain⟨cr,rfl⟩:∃cr,fl=[cr]:=by
        match fl,da with
        |[cr],_=>exact⟨cr,Q⟩
       obtain rfl:aA cr=dX:=sU da;have dY:=gR cr sQ;obtain⟨W,ak,ad,ao,ap,aq,ah,ar,rfl,-⟩:=isNode.cells dY;obtain⟨aY,cf⟩:=gM i cE;obtain⟨c,gX⟩:=gV 0 sQ;obtain rfl:a7=some ⟨aY,0,I⟩:=cf;obtain rfl:gN=some ⟨c,0,I⟩:=gX;obtain⟨gY,gZ,dZ,g0,-⟩:=dW.nth bX;obtain⟨rfl,rfl⟩:aY=gY/\gZ=0:=by simp at dZ;exact⟨dZ.1,dZ.2.symm⟩
       obtain⟨g1,g2,d0,g3,-⟩:=fm.nth (i:=0) (x:=(ae W ak ad ao ap (J aq ah ar)).toList) Q;obtain⟨rfl,rfl⟩:c=g1/\g2=0:=by simp at d0;exact⟨d0.1,d0.2.symm⟩
       refine⟨aY,ac,aa,Y,q,c,X,W,ak,ad,ao,ap,aq,ah,ar,Q,g0,g3,by rw[List.getElem?_map,bX];rfl,mf (n:=ad) (l:=ah) gW,λe a4=>⟨λd d1=>?_,λd d1=>?_,isNode.frame a4 _ _ dY,?_⟩⟩
       ·obtain⟨d2,d3,cg,-,bt⟩:=(dW.frame a4 dS).nth bX;obtain⟨rfl,rfl⟩:aY=d2/\d3=0:=by simp at cg;exact⟨cg.1,cg.2.symm⟩
        have:=bt d d1;rw[Nat.zero_add] at this;exact this
       ·obtain⟨d2,d3,cg,-,bt⟩:=(fm.frame a4 dS).nth (i:=0) (x:=(ae W ak ad ao ap (J aq ah ar)).toList) Q;obtain⟨rfl,rfl⟩:c=d2/\d3=0:=by simp at cg;exact⟨cg.1,cg.2.symm⟩
        have:=bt d d1;simpa using this
       ·rw[aQ a4 _ _ dY _];have g4:aG (h+2) wr (ae 5 ac aa Y q (J (some ⟨c,0,I⟩) 1 X)).toList=1+([(ae W ak ad ao ap (J aq ah ar)).toList].map (aG (h+1) wr)).sum:=gU;rw[g4];simp
     have g5:Hid (∀i,1+((aj.map (aG (h+3) wr)).take i).sum<=aG (h+4) w (ae 3 L C B z (J (some ⟨u,0,I⟩) (O R) G)).toList):=λi=>by
      have a5:=bM (aj.map (aG (h+3) wr)) i;have bl:=(dO wr (bV.out a9.kx).1).2.2
      have iM:(R.map (aG (h+3) wr)).sum=aG (h+3) wr (ae 9 c7 cC cq c8 (J c9 (O cD) c')).toList+(aj.map (aG (h+3) wr)).sum:=by
       rw[cB,List.map_cons,List.sum_cons]
      have g6:aG (h+4) wr (ae 3 L C B z (J (some ⟨u,0,I⟩) (O R) G)).toList=1+(R.map (aG (h+3) wr)).sum:=e9;rw[<-bl,g6];omega
     clear c4 c5 e8 e9 e' fa cB fd fe fb c6 dQ ff;go_upto_region 5 with(go_at_call 35;refine(bN bP.s.mk').mono ?_;rintro d4 a2 ⟨rfl,bg⟩;replace bg:=bg.symm;subst bg)
     go_cut [8,9] (λg7 g8 a2=>∃(bF:Nat) (fn:Bool) (r:Nm),g7=.pointer (aS bF)/\g8=.bool fn/\Below (E (U (wr.alloc (Ob (ae 3 L C B z (J (aS u) (O R) G)) 46)))) (wr.alloc (Ob (ae 3 L C B z (J (aS u) (O R) G)) 46)) a2/\bw a2 bF (dR r)/\E (U wr)<bF/\(0<=r.n/\r.n<(O ds:Int)))
     case first=>
      clear e3 e4 e6 b3;have cF:Hid (∀{e:World},Below (E (U (wr.alloc (Ob (ae 3 L C B z (J (aS u) (O R) G)) 46)))) (wr.alloc (Ob (ae 3 L C B z (J (aS u) (O R) G)) 46)) e->Below (E (U (wr.alloc (Ob (ae 3 L C B z (J (aS u) (O R) G)) 46)))) (wr.alloc (Ob (ae 3 L C B z (J (aS u) (O R) G)) 46)) e/\(Ce e mb (jO ({M with ds:=ds}.bt 0 a)))/\(Ce e (E (U wr)) (ae 3 L C B z (J (aS u) (O R) G)))):=λ{e} y=>⟨y,(bP.s.mk'.below y).cell,λd=>cell_of_row e _ d _ 46 (0,0) ((y.block _ sQ).trans (al1 wr _).2)⟩
      have fo:Hid (∀(r:Nm) (b:Bool),(b=true->r∈md.ns.take md.own/\r.name.toList=z.toList)->(b=false->r=gJ/\∀bE∈md.ns.take md.own,bE.name.toList≠z.toList)->0<=r.n/\r.n<(O ds:Int)):=λr b g9 b5=>by
       have g':=bP.s.pi.bB.1;have iN:1<=O ds:=g'
       cases b
       ·rw[(b5 Q).1];exact⟨Int.le_refl _,by show(0:Int)<_;omega⟩
       ·have bl:=g9 Q
        have ha:M.fk=0:=by
         by_cases d5:M.fk=0
         ·exact d5
         ·exact absurd (a9.hf d5).symm d5
        have hb:=bU.out.2.2.2.2.2 ha L C B z _ (mG gx.out) r bl.1 bl.2;have cG:=bP.s.pi.q md (mG bU.out.2.2.2.2.1) r (List.mem_of_mem_take bl.1);exact⟨cG.1,cG.2.1 hb⟩
      go_region_held3 (λe=>Below (E (U (wr.alloc (Ob (ae 3 L C B z (J (aS u) (O R) G)) 46)))) (wr.alloc (Ob (ae 3 L C B z (J (aS u) (O R) G)) 46)) e/\(Ce e mb (jO ({M with ds:=ds}.bt 0 a)))/\(Ce e (E (U wr)) (ae 3 L C B z (J (aS u) (O R) G))))
       (first|assumption|exact cF.out ((Below.refl _ _).drew)|exact cF.out ((al1 _ _).1.drew)|exact cF.out b6|exact cF.out (b6.alloc b6.size _)|exact cF.out (Below.cQ b6 sQ _ _ _ _))
       (first
        |(go_at_call 48;have cI:=(‹Below (E (U (wr.alloc (Ob (ae 3 L C B z (J (aS u) (O R) G)) 46)))) (wr.alloc (Ob (ae 3 L C B z (J (aS u) (O R) G)) 46)) _/\_›).1;refine(pY (bP.s.pi.cK.below cI) _ _ _ _ _ _ (i:=mod) bU.out.2.2.2.2.1 _).mono ?_;rintro aJ fp ⟨db,dc,rfl,fq,fr,fs⟩;have b6:=cI.trans (fs.mono cI.size);have hc:=b6.size;first|(have dd:bw fp (E (U wr)+1) (dR gJ):=(fs.block (E (U wr)+1) sQ).trans (eI wr _ _).2.2;have iO:=dd.cell;have iP:=dd.fz;have iQ:=dd.lt)|skip))
      all_goals
       go_wp2_with fail;go_meet
       first
        |exact⟨E (U wr)+1,dc,db,Q,Q,Below.cQ b6 sQ _ _ _ _,bw.bQ dd _ _ _ _,oM,fo.out db dc fq fr⟩
        |exact⟨E (U fp),dc,db,Q,Q,b6.alloc b6.size _,(al1 _ _).2,by simp at hc;omega,fo.out db dc fq fr⟩
     case rest=>
      clear e3 e4 e6 b3;obtain⟨bF,fn,r,rfl,rfl,de,d6,iR,d7⟩:=hcut;obtain⟨df,dg,ft,dh⟩:=r;obtain⟨bh,rfl⟩:∃bh:Nat,ft=(bh:Int):=⟨ft.toNat,by have:=d7.1;simp at this;omega⟩;have hd:bh<O ds:=by have:=d7.2;simp at this;exact this
      clear d7;have bQ:=bP.below de;have d8:wc.heap[E (U wr)]? =some (Ob (ae 3 L C B z (J (aS u) (O R) G)) 46 (0,0)):=(de.block _ sQ).trans (al1 wr _).2;have hf:E (U wr)<E (U wc):=(gE d8).1;have cJ:∀b,Mu b->b<E (U w):=bU.out.2.2.2.1;have iS:E (U w)<=E (U wr):=(bV.out a9.kx).1.size;obtain⟨di,X⟩:=al1 wc (Ob (dL ({mb:=mb,mod:=mod,aw:=I,cO:=0,aZ:=[],cj:=I,tcp:=0,bg:=[],bR:=false,sk:=0,sn:=0,iK:=I,iL:=0,iM:=0,iN:=I,iO:=0,iP:=0}:CK) 2 0 0 0 0) 126);obtain⟨aH,dj⟩:∃aH,aH=wc.alloc (Ob (dL ({mb:=mb,mod:=mod,aw:=I,cO:=0,aZ:=[],cj:=I,tcp:=0,bg:=[],bR:=false,sk:=0,sn:=0,iK:=I,iL:=0,iM:=0,iN:=I,iO:=0,iP:=0}:CK) 2 0 0 0 0) 126):=⟨_,Q⟩;have iT:E (U aH)=E (U wc)+1:=by rw[dj];simp
      rw[<-dj] at di X;have cK:IE aH mb (E (U wc)) ({M with ds:=ds}.bt 0 a) trs ims fns Xd' Xi Xf (λb=>Mu b\/b=E (U wc)) H' aH 0 a ({mb:=mb,mod:=mod,aw:=I,cO:=0,aZ:=[],cj:=I,tcp:=0,bg:=[],bR:=false,sk:=0,sn:=0,iK:=I,iL:=0,iM:=0,iN:=I,iO:=0,iP:=0}:CK) 2 0 0 0 0:=⟨bQ.s.grow di (λb y=>.inl y) (λb y=>by rcases y with y|y;(have:=cJ b y;omega);omega) (λb bp y=>by rcases y with y|y;exact y;omega),KX.refl _ _ _,X,.inr Q,λ_=>rfl⟩
      have bm:Hid (∀{e:World},KX (λb=>Mu b\/b=E (U wc)) (E (U aH)) aH e->KX Mu (E (U wc)) wc e/\al (λb=>b<B0) wr e/\e.heap[E (U wr)]? =some (Ob (ae 3 L C B z (J (aS u) (O R) G)) 46 (0,0))/\bw e bF (dR ⟨df,dg,(bh:Int),dh⟩)):=λ{e} bi=>by
       have dk:KX Mu (E (U wc)) wc e:=(KX.aq di).trans (bi.mono (λb bp y=>by rcases y with y|y;exact y;omega) oM);have hg:KX Mu (E (U wr)) wr e:=(KX.aq ((al1 wr _).1.trans (de.mono (al1 wr _).1.size))).trans (dk.mono (λ_ _ h=>h) oM);refine⟨dk,λb y bp=>hg.block b bp (λaM=>oH (bU.out.2.2.1 b aM)),(dk.block _ hf (λaM=>?_)).trans d8,(dk.block _ d6.lt (λaM=>?_)).trans d6⟩
       ·have:=cJ _ aM;omega
       ·have:=cJ _ aM;omega
      have hh:mb≠E (U wc):=oH bQ.s.mk'.lt;clear de bP di X d6 d8;have iU:(0:Int)<(O R:Int):=oH b4.out;go_upto_region 7 with fail
      generalize cG:World.alloc wc _=hi;obtain rfl:aH=hi:=dj.trans cG;clear dj cG;have d9:=λd=>cell_of_row aH _ d _ 46 (0,0) (bm.out (KX.refl _ _ _)).2.2.1;have d':E (U wr)<E (U aH):=oM;have hj:aH.cell? ⟨u,0,I⟩=some (vN 9):=(bv.out (bm.out (KX.refl _ _ _)).2.1).1 0 dC;have hk:aH.cell? ⟨u,1,I⟩=some (vN c7):=(bv.out (bm.out (KX.refl _ _ _)).2.1).1 1 dC;have hl:aH.cell? ⟨u,2,I⟩=some (vN cC):=(bv.out (bm.out (KX.refl _ _ _)).2.1).1 2 dC;have hm:aH.cell? ⟨u,3,I⟩=some (vN cq):=(bv.out (bm.out (KX.refl _ _ _)).2.1).1 3 dC;have hn:aH.cell? ⟨u,4,I⟩=some (.string c8):=(bv.out (bm.out (KX.refl _ _ _)).2.1).1 4 dC;have ho:aH.cell? ⟨u,5,I⟩=some (J c9 (O cD) c'):=(bv.out (bm.out (KX.refl _ _ _)).2.1).1 5 dC;have hp:aH.cell? ⟨u,6,I⟩=some (vN 0):=(bv.out (bm.out (KX.refl _ _ _)).2.1).1 6 dC;have hq:aH.cell? ⟨u,7,I⟩=some (vN 0):=(bv.out (bm.out (KX.refl _ _ _)).2.1).1 7 dC;have hr:aH.cell? ⟨u,8,I⟩=some aF:=(bv.out (bm.out (KX.refl _ _ _)).2.1).1 8 dC;have hs:aH.cell? ⟨u,9,I⟩=some aF:=(bv.out (bm.out (KX.refl _ _ _)).2.1).1 9 dC;have ht:aH.cell? ⟨u,10,I⟩=some aF:=(bv.out (bm.out (KX.refl _ _ _)).2.1).1 10 dC;have b3:u<E (U aH):=oM;go_upto_region 8 with(go_at_call 49;refine(pH (h:=h+2) (K:=({mb:=mb,mod:=mod,aw:=I,cO:=0,aZ:=[],cj:=I,tcp:=0,bg:=[],bR:=false,sk:=0,sn:=0,iK:=I,iL:=0,iM:=0,iN:=I,iO:=0,iP:=0}:CK)) cK.s.mk' cK.cv hh oM gr (bv.out (bm.out cK.kx).2.1).2).mono ?_;rintro aJ aW ⟨fu,fv,cs,fw,fx,cL,W,fy,rfl,hu,ea,fz,eb,fA,fB,-,ec⟩)
      have fC:=cK.oe eb ea fz ec;have hv:=eb.size;have hw:O cs<=30000:=oM;have hx:O cL<=30000:=oM
      have fD:Hid (∀{e:World},KX (λb=>Mu b\/b=E (U wc)) (E (U aW)) aW e->e.ownsRow 0 9 1 (J fu (O cs) fv) (O cs) (cd cs)/\e.ownsRow 0 9 1 (J fw (O cL) fx) (O cL) (cd cL)):=λ{e} bi=>by
       have fE:∀(v:Value) (n:Nat) (ed:List Value),aW.ownsRow (E (U aH)) 9 1 v n ed->e.ownsRow 0 9 1 v n ed:=λv n ed bA=>ag (gy bA) (λb y bp=>bi.block b bp (λaM=>by
        have a5:=(bA.lt b y).1;rcases aM with aM|aM
        ·have:=cJ b aM;omega
        ·omega))
       exact⟨fE _ _ _ fA,fE _ _ _ fB⟩
      obtain⟨br,fF⟩:∃br,br=({mb:=mb,mod:=mod,aw:=I,cO:=0,aZ:=[],cj:=I,tcp:=0,bg:=[],bR:=false,sk:=0,sn:=0,iK:=I,iL:=0,iM:=0,iN:=I,iO:=0,iP:=0}:CK).nm fu fv cs fw fx cL:=⟨_,Q⟩
      have fG:Hid (∀{e:World} {ee ef:Int},KX (λb=>Mu b\/b=E (U wc)) (E (U aW)) aW e->PI e mb (({M with ds:=ds}.bt 0 a).bt ee ef) (O trs)->Cx e (E (U wc)) br (({M with ds:=ds}.bt 0 a).bt ee ef) (O trs) (λ_=>False) 1 1):=λ{e ee ef} bi hy=>by
       have fH:=dz (S:=λ_=>False) (D:=O ds) (w:=e) (kind:=0) (n:=0) ⟨λaJ=>absurd aJ dC,dC,dC⟩;have hz:mod<O M.ms:=(gS bU.out.2.2.2.2.1).1;rw[fF];exact⟨(fD.out bi).1,hw,(fD.out bi).2,hx,hy,hz,fH.1,λ_ aV=>aV.elim,fH.2,lR _⟩
      have bG:Hid (∀{e:World},KX (λb=>Mu b\/b=E (U wc)) (E (U aW)) aW e->KX Mu (E (U wc)) wc e/\al (λb=>b<B0) wr e/\e.heap[E (U wr)]? =some (Ob (ae 3 L C B z (J (aS u) (O R) G)) 46 (0,0))/\bw e bF (dR ⟨df,dg,(bh:Int),dh⟩)):=λ{e} bi=>bm.out (fC.kx.trans (bi.mono (λ_ _ h=>h) hv))
      have fI:∀b,(λb=>Mu b\/b=E (U wc)) b->b<E (U aW):=λb y=>by
       rcases y with y|y
       ·have:=cJ b y;omega
       ·omega
      have eg:DC aW mb (E (U wc)) ({M with ds:=ds}.bt 0 a) trs ims fns Xd' Xi Xf (λb=>Mu b\/b=E (U wc)) (λb=>Mu b\/b=E (U wc)) H' br I 0 [] 0 aW W fy (O cs) 0 0:=⟨fC.s,by rw[fF];exact ea,.inr Q,World.ownsRow_nil _ _ _ _,λb aJ=>by simp[Value.ownBlock] at aJ,λbx bt=>by simp at bt,λf=>by simp,KX.refl _ _ _,.inl bQ.s.dT,λ_ h=>h,λ_ _ h=>h,ec⟩;obtain⟨bb,b7⟩:∃bb:MK,bb=({M with ds:=ds}.bt 0 a):=⟨_,Q⟩;rw[<-b7] at eg fG
      have eh:Hid (MS aH mb bb trs ims fns Xd' Xi Xf (λb=>Mu b\/b=E (U wc)) H'/\MS wc mb bb trs ims fns Xd' Xi Xf Mu H'):=by
       rw[b7];exact⟨cK.s,bQ.s⟩
      clear hu ea fz ec fA fB eb hj hk hl hm hn ho hp hq hr hs ht b3 d9 d';have d9:=λd=>cell_of_row aW _ d _ 46 (0,0) (bG.out (KX.refl _ _ _)).2.2.1;have d':E (U wr)<E (U aW):=oM;obtain⟨P,hA⟩:∃P,P=wr:=⟨_,Q⟩;subst hA;have iV:(O R:Int)<=(G:Int):=oM;have iW:(1:Int)<=(O R:Int):=oH b4.out
      have ei:Hid (∀{e:World} {b8:Nat->Prop} {bH:Nat} {bc:OA} {bd:Nat} {Z:List Cs} {fJ:Nat} {k bR next ch ci:Int},DC aW mb (E (U wc)) bb trs ims fns Xd' Xi Xf (λb=>Mu b\/b=E (U wc)) b8 bH br bc bd Z fJ e k bR next ch ci->(∀b,b8 b->B0<=b)/\B0<=E (U e)):=λ{e b8 bH bc bd Z fJ k bR next ch ci} bq=>by
       have iX:=bq.kx.size;refine⟨λb y=>?_,oM⟩;by_cases cI:b<E (U aW)
       ·rcases bq.m2 b cI y with a5|a5
        ·exact bU.out.2.2.1 b a5
        ·omega
       ·omega
      by_cases hB:G=1
      case' pos=>
       subst hB
       have hC:Hid (O aj=0):=by
        have:=b4.out;show _=_;omega
       go_wp2_with fail
      case' neg=>
       go_wp2_with fail;rw[show O R - 1=O aj from(oH b4.out)]
      all_goals
       clear d9 d';go_loopg [11,13,15,16,18,20,64] (O aj) (λbW hD _ _ _ _ _ bO a2=>∃(j:Nat) (bc:OA) (bd:Nat) (Z:List Cs) (k bR next ch ci:Int) (b8:Nat->Prop) (bH:Nat),bW=O aj - j/\bO=.int .i64 j/\hD=J bc (O Z) bd/\j<=O aj/\Hid (O Z<=j)/\Hid (H'<=bH)/\DC aW mb (E (U wc)) bb trs ims fns Xd' Xi Xf (λb=>Mu b\/b=E (U wc)) b8 bH br bc bd Z (((aj.map (aG (h+3) P)).take j).sum) a2 k bR next ch ci)
       case atStart=>exact⟨0,I,0,[],W,fy,_,_,_,_,H',Q,Q,Q,zL _,zL _,lR _,by rw[List.take_zero,List.sum_nil];exact eg⟩
       case round=>
        clear eg;obtain⟨j,bc,bd,Z,k,bR,next,ch,ci,b8,bH,bk,rfl,rfl,b2,ej,fK,bq⟩:=hrel;have hE:Hid (gk=O aj - j):=bk;clear bk;by_cases ek:j<O aj
        ·first
         |exact absurd ek (oH hC.out)
         |have hG:(j:Int)<(O aj:Int):=by omega
          have el:O Z<=20000:=oI ej.out b4.out;obtain⟨a',a6,a1,ab,a7,N,ba,fM,iY,fN,fO,fP⟩:=gF.out j ek;have fQ:Hid ((aj.map (aG (h+3) P))[j]? =some (aG (h+3) P (ae 4 a' a6 a1 ab (J a7 (O N) ba)).toList)/\aG (h+3) P (ae 4 a' a6 a1 ab (J a7 (O N) ba)).toList=1+(N.map (aG (h+2) P)).sum):=⟨fM,fN⟩;have hH:Hid (∀i,i<O N->∃(aY:Nat) (ac aa Y:Int) (q:ByteArray) (c X:Nat) (W ak ad ao:Int) (ap:ByteArray) (aq:OA) (ah ar:Nat),a7=some ⟨aY,0,I⟩/\aY<B0/\c<B0/\(N.map (aG (h+2) P))[i]? =some (aG (h+2) P (ae 5 ac aa Y q (J (some ⟨c,0,I⟩) 1 X)).toList)/\cH W/\∀e:World,al (λb=>b<B0) P e->(∀d,d<11->e.cell? ⟨aY,i*11+d,I⟩=(ae 5 ac aa Y q (J (some ⟨c,0,I⟩) 1 X)).toList[d]?)/\(∀d,d<11->e.cell? ⟨c,d,I⟩=(ae W ak ad ao ap (J aq ah ar)).toList[d]?)/\isNode (λb=>b<B0) True (h+1) e (ae W ak ad ao ap (J aq ah ar)).toList/\aG (h+1) e (ae W ak ad ao ap (J aq ah ar)).toList<=aG (h+2) P (ae 5 ac aa Y q (J (some ⟨c,0,I⟩) 1 X)).toList):=fP;have fR:=fO wr (bG.out bq.kx).2.1;have hI:=qt fR;have b3:u<E (U wr):=oH (ei.out bq).2;obtain⟨fS,em⟩:=al1 wr (Ob (ae 4 a' a6 a1 ab (J a7 (O N) ba)) 46);have en:=bq.below fS;obtain⟨a3,ep⟩:∃a3,a3=E (U wr):=⟨_,Q⟩;obtain⟨fT,dl⟩:∃fT,fT=wr.alloc (Ob (ae 4 a' a6 a1 ab (J a7 (O N) ba)) 46):=⟨_,Q⟩;rw[<-dl,<-ep] at em;rw[<-dl] at en;clear fR fO fP fM fN fS;go_wp2_with fail;rw[<-dl,<-ep];clear dl ep bq hI b3;go_loopg [15,70] (O Z) (λbW _ bO a2=>∃(i:Nat) (k bR:Int),bW=O Z - i/\bO=.int .i64 i/\i<=O Z/\DC aW mb (E (U wc)) bb trs ims fns Xd' Xi Xf (λb=>Mu b\/b=E (U wc)) b8 bH br bc bd Z (((aj.map (aG (h+3) P)).take j).sum) a2 k bR next ch ci/\a2.heap[a3]? =some (Ob (ae 4 a' a6 a1 ab (J a7 (O N) ba)) 46 (0,0)))
          case atStart=>exact⟨0,k,bR,Q,Q,zL _,en,em⟩
          case round=>
           clear en em;obtain⟨i,hJ,hL,bk,rfl,cE,dm,cM⟩:=hrel;have hM:Hid (gk=O Z - i):=bk;clear bk;have hN:=λd=>cell_of_row wr _ d _ 46 (0,0) cM;have eq:a3<E (U wr):=(gE cM).1;have hO:a3<E (U wr)+1:=oM;by_cases er:i<O Z
           ·have fU:(i:Int)<(O Z:Int):=oM;obtain⟨bx,bt⟩:∃bx,Z[i]? =some bx:=⟨_,gG er⟩;obtain⟨bI,es,cf,hP,-,bz⟩:=aL dm.row sQ (λx aV=>by obtain⟨bE,_,rfl⟩:=List.mem_map.1 aV;rfl) (i:=i) (x:=bx.c) (by rw[List.getElem?_map,bt];rfl);obtain⟨rfl,rfl⟩:bc=some ⟨bI,0,I⟩/\bd=es:=sU cf;have cq:wr.cell? ⟨bI,i*2,I⟩=some (.string bx.name):=bz 0 dC;have B:wr.cell? ⟨bI,i*2+1,I⟩=some (J bx.ao (O bx.ps) bx.cp):=bz 1 dC;obtain⟨b9,-⟩:=al1 wr (Ob #[.string bx.name,J bx.ao (O bx.ps) bx.cp] 67);have ct:=dm.below b9;have bZ:=(b9.block a3 eq).trans cM;clear bz cf bt b9;go_wp2_with (go_at_call 45;refine(bY ct.s.mk' _ _).mono ?_;rintro aJ hQ ⟨⟨hR,hT,rfl,cN,cu,et⟩,-⟩;have hU:=ct.no cu cN et;have eu:=(cu.block a3 (gE bZ).1 (aI bZ ct.s.mk' dC)).trans bZ)
            all_goals
             go_roundg (O Z - (i+1))
             case measure=>rw[hM.out];omega
             case rel=>
              first
               |exact⟨i+1,_,_,Q,by go_num,er,hU,eu⟩
               |exact⟨i+1,_,_,Q,by go_num,er,ct,bZ⟩
           ·have fU:¬(i:Int)<(O Z:Int):=oM;have dn:=dm.var ab;obtain⟨V,ev⟩:∃V,V=E (U wr):=⟨_,Q⟩;obtain⟨ew,dp⟩:∃ew,ew=wr.alloc (Ob #[.string ab,J I 0 0] 67):=⟨_,Q⟩
            have fV:ew.heap[a3]? =some (Ob (ae 4 a' a6 a1 ab (J a7 (O N) ba)) 46 (0,0)):=by
             rw[dp];exact((al1 wr _).1.block a3 eq).trans cM
            rw[<-dp,<-ev] at dn;obtain⟨ex,fW⟩:∃ex:Nat->Prop,ex=(λb=>b8 b\/b=V):=⟨_,Q⟩;rw[<-fW] at dn;clear fW;go_wp2_with fail;rw[<-dp,<-ev];clear dp ev dm cM hN eq hO fU;go_loopg [18,20,90] (O N) (λbW _ _ bO a2=>∃(aN:Nat) (dq dr cO cP cQ:Int) (cR:Nat->Prop) (bJ:Nat) (bn:OA) (bo:Nat) (A:List Pt),bW=O N - aN/\bO=.int .i64 aN/\aN<=O N/\Hid (O A<=aN)/\Hid (bH<=bJ)/\DP aW mb (E (U wc)) V bb trs ims fns Xd' Xi Xf (λb=>Mu b\/b=E (U wc)) cR bJ br bc bd Z (((aj.map (aG (h+3) P)).take j).sum) ab bn bo A (((N.map (aG (h+2) P)).take aN).sum) a2 dq dr cO cP cQ/\a2.heap[a3]? =some (Ob (ae 4 a' a6 a1 ab (J a7 (O N) ba)) 46 (0,0)))
            case atStart=>exact⟨0,hJ,hL,next,ch,ci,ex,bH,I,0,[],Q,Q,zL _,zL _,lR _,by rw[List.take_zero,List.sum_nil];exact dn,fV⟩
            case round=>
             clear dn fV;obtain⟨aN,dq,dr,cO,cP,cQ,cR,bJ,bn,bo,A,bk,rfl,iZ,dt,ey,p,bT⟩:=hrel;have fX:Hid (gk=O N - aN):=bk;clear bk;by_cases ez:aN<O N
             ·have hV:(aN:Int)<(O N:Int):=oM;have hW:O A<=20000:=oH dt.out;obtain⟨aY,ac,aa,Y,q,c,X,W,ak,ad,ao,ap,aq,ah,ar,aJ,i0,i1,fY,fZ,eA⟩:=hH.out aN ez;obtain rfl:a7=some ⟨aY,0,I⟩:=aJ;have cv:Hid ((N.map (aG (h+2) P))[aN]? =some (aG (h+2) P (ae 5 ac aa Y q (J (some ⟨c,0,I⟩) 1 X)).toList)/\cH W/\∀e:World,al (λb=>b<B0) P e->(∀d,d<11->e.cell? ⟨aY,aN*11+d,I⟩=(ae 5 ac aa Y q (J (some ⟨c,0,I⟩) 1 X)).toList[d]?)/\(∀d,d<11->e.cell? ⟨c,d,I⟩=(ae W ak ad ao ap (J aq ah ar)).toList[d]?)/\isNode (λb=>b<B0) True (h+1) e (ae W ak ad ao ap (J aq ah ar)).toList/\aG (h+1) e (ae W ak ad ao ap (J aq ah ar)).toList<=aG (h+2) P (ae 5 ac aa Y q (J (some ⟨c,0,I⟩) 1 X)).toList):=⟨fY,fZ,eA⟩;have f0:=eA wr (bG.out p.c.kx).2.1;have hX:=qt f0.1;have b3:aY<E (U wr):=oH (ei.out p.c).2;have eC:=λd=>cell_of_row wr _ d _ 67 (0,0) p.ik;have eD:V<E (U wr):=(gE p.ik).1;obtain⟨eE,eF⟩:=al1 wr (Ob (ae 5 ac aa Y q (J (aS c) 1 X)) 46);have eG:=p.below eE;have eH:=(eE.block a3 (gE bT).1).trans bT;obtain⟨aZ,eK⟩:∃aZ,aZ=E (U wr):=⟨_,Q⟩;obtain⟨f1,du⟩:∃f1,f1=wr.alloc (Ob (ae 5 ac aa Y q (J (aS c) 1 X)) 46):=⟨_,Q⟩;rw[<-du,<-eK] at eF;rw[<-du] at eG eH;clear f0 fY fZ eA eE;go_wp2_with fail;rw[<-du,<-eK];clear du eK p bT eC eD hX b3;go_loopg [20,97] (O A) (λbW _ bO a2=>∃(a0:Nat) (dv eL:Int),bW=O A - a0/\bO=.int .i64 a0/\a0<=O A/\DP aW mb (E (U wc)) V bb trs ims fns Xd' Xi Xf (λb=>Mu b\/b=E (U wc)) cR bJ br bc bd Z (((aj.map (aG (h+3) P)).take j).sum) ab bn bo A (((N.map (aG (h+2) P)).take aN).sum) a2 dv eL cO cP cQ/\a2.heap[a3]? =some (Ob (ae 4 a' a6 a1 ab (J (some ⟨aY,0,I⟩) (O N) ba)) 46 (0,0))/\a2.heap[aZ]? =some (Ob (ae 5 ac aa Y q (J (some ⟨c,0,I⟩) 1 X)) 46 (0,0)))
              case atStart=>exact⟨0,dq,dr,Q,Q,zL _,eG,eH,eF⟩
              case round=>
               clear eG eH eF;obtain⟨a0,dv,eL,bk,rfl,i2,p,bT,b5⟩:=hrel;have hY:Hid (gk=O A - a0):=bk;clear bk;have hZ:=λd=>cell_of_row wr _ d _ 46 (0,0) b5;have f2:aZ<E (U wr):=(gE b5).1;have h0:aZ<E (U wr)+1:=oM;by_cases eM:a0<O A
               ·have h1:(a0:Int)<(O A:Int):=oM;obtain⟨bE,bX⟩:∃bE,A[a0]? =some bE:=⟨_,gG eM⟩;obtain⟨bI,es,cf,hP,-,bz⟩:=aL p.jV sQ (λx aV=>by obtain⟨dX,da,rfl⟩:=List.mem_map.1 aV;obtain⟨_,_,_,_,_,_,_,_,_,_,aJ,_⟩:=p.pt dX da;rw[aJ];rfl) (i:=a0) (x:=bE.c) (by rw[List.getElem?_map,bX];rfl);obtain⟨rfl,rfl⟩:bn=some ⟨bI,0,I⟩/\bo=es:=sU cf;obtain⟨f3,f4,f5,f6,f7,f8,f9,f',ga,gb,gc,-⟩:=p.pt bE (mG bX);rw[gc] at bz;have cq:wr.cell? ⟨bI,a0*6,I⟩=some (.string f3):=bz 0 dC;have B:wr.cell? ⟨bI,a0*6+1,I⟩=some (.bool f4):=bz 1 dC;have a1:wr.cell? ⟨bI,a0*6+2,I⟩=some (vN f5):=bz 2 dC;have i3:wr.cell? ⟨bI,a0*6+3,I⟩=some (vN f6):=bz 3 dC;have i4:wr.cell? ⟨bI,a0*6+4,I⟩=some (J f7 f8 f9):=bz 4 dC;have i5:wr.cell? ⟨bI,a0*6+5,I⟩=some (J f' ga gb):=bz 5 dC;obtain⟨b9,-⟩:=al1 wr (Ob (gO f3 f4 f5 f6 (J f7 f8 f9) (J f' ga gb)) 69);have cS:=p.below b9;have bZ:=(b9.block a3 (gE bT).1).trans bT;have dw:=(b9.block aZ f2).trans b5;clear bz cf bX b9 gc;go_wp2_with (go_at_call 45;refine(bY cS.c.s.mk' _ _).mono ?_;rintro aJ hQ ⟨⟨hR,hT,rfl,cN,cu,et⟩,-⟩;have h2:=cS.no cu cN et;have eu:=(cu.block a3 (gE bZ).1 (aI bZ cS.c.s.mk' dC)).trans bZ;have h3:=(cu.block aZ (gE dw).1 (aI dw cS.c.s.mk' dC)).trans dw)
                all_goals
                 go_roundg (O A - (a0+1))
                 case measure=>rw[hY.out];omega
                 case rel=>
                  first
                   |exact⟨a0+1,_,_,Q,by go_num,eM,h2,eu,h3⟩
                   |exact⟨a0+1,_,_,Q,by go_num,eM,cS,bZ,dw⟩
               ·have h1:¬(a0:Int)<(O A:Int):=oM;by_cases cA:dv=0
                ·subst cA
                 have cT:Hid (∀{t:World},t.heap[aZ]? =some (Ob (ae 5 ac aa Y q (J (aS c) 1 X)) 46 (0,0))->t.heap[E (U P)]? =some (Ob (ae 3 L C B z (J (aS u) (O R) G)) 46 (0,0))->al (λb=>b<B0) P t->(Ce t aZ (ae 5 ac aa Y q (J (aS c) 1 X)))/\(Ce t (E (U P)) (ae 3 L C B z (J (aS u) (O R) G)))/\t.cell? ⟨c,0,I⟩=some (vN W)/\t.cell? ⟨c,1,I⟩=some (vN ak)/\t.cell? ⟨c,2,I⟩=some (vN ad)/\t.cell? ⟨c,3,I⟩=some (vN ao)/\t.cell? ⟨c,4,I⟩=some (.string ap)/\t.cell? ⟨c,5,I⟩=some (J aq ah ar)/\t.cell? ⟨c,6,I⟩=some (vN 0)/\t.cell? ⟨c,7,I⟩=some (vN 0)/\t.cell? ⟨c,8,I⟩=some aF/\t.cell? ⟨c,9,I⟩=some aF/\t.cell? ⟨c,10,I⟩=some aF):=λ{t} a5 bl a4=>by
                  have bu:=(cv.out.2.2 t a4).2.1;exact⟨λd=>cell_of_row t _ d _ 46 (0,0) a5,λd=>cell_of_row t _ d _ 46 (0,0) bl,bu 0 dC,bu 1 dC,bu 2 dC,bu 3 dC,bu 4 dC,bu 5 dC,bu 6 dC,bu 7 dC,bu 8 dC,bu 9 dC,bu 10 dC⟩
                 have h4:B0<=E (U wc):=oM
                 have dx:Hid (Calls Tryz.prog 50 #[.pointer (some ⟨E (U wc),0,I⟩),.agg (ae W ak ad ao ap (J aq ah ar))] wr.drew (bS wr.drew (E (U wc)) br 2 0 (λ_=>False) (O bb.ds) (aG (h+1) wr.drew (ae W ak ad ao ap (J aq ah ar)).toList*1))):=by
                  have cj:=p.below ((Below.refl (E (U wr)) wr).drew);exact yX (h+1) (fG.out cj.c.kx cj.c.s.pi) cj.c.cv h4 (cv.out.2.2 _ (bG.out cj.c.kx).2.1).2.2.1 cv.out.2.1
                 have dy:Hid (∀(aO:Bool) {aJ:Ending} {o:World},bS wr.drew (E (U wc)) br 2 0 (λ_=>False) (O bb.ds) (aG (h+1) wr.drew (ae W ak ad ao ap (J aq ah ar)).toList*1) aJ o->∃(av aw:Int) (ax:OA) (ay az:Nat) (aB:OA) (aC aD:Nat) (b' ca cb:Int),aJ=.returned (.agg (ai av aw (J ax ay az) (J aB aC aD)))/\o.heap[V]? =some (Ob #[.string ab,J bn (O A) bo] 67 (0,0))/\((∀d,o.cell? ⟨aZ,d,I⟩=(ae 5 ac aa Y q (J (some ⟨c,0,I⟩) 1 X))[d]?)/\(∀d,o.cell? ⟨E (U P),d,I⟩=(ae 3 L C B z (J (some ⟨u,0,I⟩) (O R) G))[d]?)/\o.cell? ⟨c,0,I⟩=some (.int .i64 W)/\o.cell? ⟨c,1,I⟩=some (.int .i64 ak)/\o.cell? ⟨c,2,I⟩=some (.int .i64 ad)/\o.cell? ⟨c,3,I⟩=some (.int .i64 ao)/\o.cell? ⟨c,4,I⟩=some (.string ap)/\o.cell? ⟨c,5,I⟩=some (J aq ah ar)/\o.cell? ⟨c,6,I⟩=some (.int .i64 0)/\o.cell? ⟨c,7,I⟩=some (.int .i64 0)/\o.cell? ⟨c,8,I⟩=some aF/\o.cell? ⟨c,9,I⟩=some aF/\o.cell? ⟨c,10,I⟩=some aF)/\((∀d,(o.alloc (Ob (gO q aO av aw (J ax ay az) (J aB aC aD)) 69)).cell? ⟨aZ,d,I⟩=(ae 5 ac aa Y q (J (some ⟨c,0,I⟩) 1 X))[d]?)/\(∀d,(o.alloc (Ob (gO q aO av aw (J ax ay az) (J aB aC aD)) 69)).cell? ⟨E (U P),d,I⟩=(ae 3 L C B z (J (some ⟨u,0,I⟩) (O R) G))[d]?)/\(o.alloc (Ob (gO q aO av aw (J ax ay az) (J aB aC aD)) 69)).cell? ⟨c,0,I⟩=some (.int .i64 W)/\(o.alloc (Ob (gO q aO av aw (J ax ay az) (J aB aC aD)) 69)).cell? ⟨c,1,I⟩=some (.int .i64 ak)/\(o.alloc (Ob (gO q aO av aw (J ax ay az) (J aB aC aD)) 69)).cell? ⟨c,2,I⟩=some (.int .i64 ad)/\(o.alloc (Ob (gO q aO av aw (J ax ay az) (J aB aC aD)) 69)).cell? ⟨c,3,I⟩=some (.int .i64 ao)/\(o.alloc (Ob (gO q aO av aw (J ax ay az) (J aB aC aD)) 69)).cell? ⟨c,4,I⟩=some (.string ap)/\(o.alloc (Ob (gO q aO av aw (J ax ay az) (J aB aC aD)) 69)).cell? ⟨c,5,I⟩=some (J aq ah ar)/\(o.alloc (Ob (gO q aO av aw (J ax ay az) (J aB aC aD)) 69)).cell? ⟨c,6,I⟩=some (.int .i64 0)/\(o.alloc (Ob (gO q aO av aw (J ax ay az) (J aB aC aD)) 69)).cell? ⟨c,7,I⟩=some (.int .i64 0)/\(o.alloc (Ob (gO q aO av aw (J ax ay az) (J aB aC aD)) 69)).cell? ⟨c,8,I⟩=some aF/\(o.alloc (Ob (gO q aO av aw (J ax ay az) (J aB aC aD)) 69)).cell? ⟨c,9,I⟩=some aF/\(o.alloc (Ob (gO q aO av aw (J ax ay az) (J aB aC aD)) 69)).cell? ⟨c,10,I⟩=some aF)/\∀ck:TypeId,∃bK T,(Builtin.append_ #[65,65] ck #[J bn (O A) bo,J (some ⟨E (U o),0,I⟩) 1 1]).run Tryz.prog (o.alloc (Ob (gO q aO av aw (J ax ay az) (J aB aC aD)) 69))=.ok bK T/\∃aP aR,bK=J aP (O A+1) aR/\T.heap[V]? =some (Ob #[.string ab,J bn (O A) bo] 67 (0,0))/\((∀d,T.cell? ⟨aZ,d,I⟩=(ae 5 ac aa Y q (J (some ⟨c,0,I⟩) 1 X))[d]?)/\(∀d,T.cell? ⟨E (U P),d,I⟩=(ae 3 L C B z (J (some ⟨u,0,I⟩) (O R) G))[d]?)/\T.cell? ⟨c,0,I⟩=some (.int .i64 W)/\T.cell? ⟨c,1,I⟩=some (.int .i64 ak)/\T.cell? ⟨c,2,I⟩=some (.int .i64 ad)/\T.cell? ⟨c,3,I⟩=some (.int .i64 ao)/\T.cell? ⟨c,4,I⟩=some (.string ap)/\T.cell? ⟨c,5,I⟩=some (J aq ah ar)/\T.cell? ⟨c,6,I⟩=some (.int .i64 0)/\T.cell? ⟨c,7,I⟩=some (.int .i64 0)/\T.cell? ⟨c,8,I⟩=some aF/\T.cell? ⟨c,9,I⟩=some aF/\T.cell? ⟨c,10,I⟩=some aF)/\((∀d,(T.setCell ⟨V,1,I⟩ (J aP (O A+1) aR)).cell? ⟨aZ,d,I⟩=(ae 5 ac aa Y q (J (some ⟨c,0,I⟩) 1 X))[d]?)/\(∀d,(T.setCell ⟨V,1,I⟩ (J aP (O A+1) aR)).cell? ⟨E (U P),d,I⟩=(ae 3 L C B z (J (some ⟨u,0,I⟩) (O R) G))[d]?)/\(T.setCell ⟨V,1,I⟩ (J aP (O A+1) aR)).cell? ⟨c,0,I⟩=some (.int .i64 W)/\(T.setCell ⟨V,1,I⟩ (J aP (O A+1) aR)).cell? ⟨c,1,I⟩=some (.int .i64 ak)/\(T.setCell ⟨V,1,I⟩ (J aP (O A+1) aR)).cell? ⟨c,2,I⟩=some (.int .i64 ad)/\(T.setCell ⟨V,1,I⟩ (J aP (O A+1) aR)).cell? ⟨c,3,I⟩=some (.int .i64 ao)/\(T.setCell ⟨V,1,I⟩ (J aP (O A+1) aR)).cell? ⟨c,4,I⟩=some (.string ap)/\(T.setCell ⟨V,1,I⟩ (J aP (O A+1) aR)).cell? ⟨c,5,I⟩=some (J aq ah ar)/\(T.setCell ⟨V,1,I⟩ (J aP (O A+1) aR)).cell? ⟨c,6,I⟩=some (.int .i64 0)/\(T.setCell ⟨V,1,I⟩ (J aP (O A+1) aR)).cell? ⟨c,7,I⟩=some (.int .i64 0)/\(T.setCell ⟨V,1,I⟩ (J aP (O A+1) aR)).cell? ⟨c,8,I⟩=some aF/\(T.setCell ⟨V,1,I⟩ (J aP (O A+1) aR)).cell? ⟨c,9,I⟩=some aF/\(T.setCell ⟨V,1,I⟩ (J aP (O A+1) aR)).cell? ⟨c,10,I⟩=some aF)/\∃cU dA,bJ<=dA/\DP aW mb (E (U wc)) V bb trs ims fns Xd' Xi Xf (λb=>Mu b\/b=E (U wc)) cU dA br bc bd Z (((aj.map (aG (h+3) P)).take j).sum) ab aP aR (A++[(⟨q,aO,(ai av aw (J ax ay az) (J aB aC aD)).toList⟩:Pt)]) (((N.map (aG (h+2) P)).take (aN+1)).sum) (T.setCell ⟨V,1,I⟩ (J aP (O A+1) aR)) 0 eL b' ca cb/\(T.setCell ⟨V,1,I⟩ (J aP (O A+1) aR)).heap[a3]? =some (Ob (ae 4 a' a6 a1 ab (J (some ⟨aY,0,I⟩) (O N) ba)) 46 (0,0))):=λaO {aJ o} h5=>by
                  obtain⟨av,aw,ax,ay,az,aB,aC,aD,b',ca,cb,h6,h7,eN,⟨eO,h8⟩,h9⟩:=h5;have cj:=p.below ((Below.refl (E (U wr)) wr).drew);have cV:=(cj.kp eN h7).le (Nat.le_max_left bJ eO);have cW:o.heap[aZ]? =some (Ob (ae 5 ac aa Y q (J (aS c) 1 X)) 46 (0,0)):=(eN.block aZ f2 (aI b5 p.c.cv dC)).trans b5;have h':o.heap[a3]? =some (Ob (ae 4 a' a6 a1 ab (J (aS aY) (O N) ba)) 46 (0,0)):=(eN.block a3 (gE bT).1 (aI bT p.c.cv dC)).trans bT;have cm:=bG.out cV.c.kx;have gd:=(al1 o (Ob (gO q aO av aw (J ax ay az) (J aB aC aD)) 69)).1;have ge:=bG.out (cV.below gd).c.kx;have gf:=(ei.out cV.c).1;have i6:E (U P)<=E (U o):=Nat.le_of_lt (gE cm.2.2.1).1
                  have ia:eo (λb=>¬cR b) (O bb.ds) (max bJ eO) o (⟨q,aO,(ai av aw (J ax ay az) (J aB aC aD)).toList⟩:Pt).c:=⟨q,aO,av,aw,ax,ay,az,aB,aC,aD,Q,af.le (af.weaken (λb y _ aM=>by
                   rcases y with y|y
                   ·exact y.elim
                   ·have a5:=p.c.s.mlt b aM;have bl:E (U wr)<=b:=y;omega) _ _ h8) _ (Nat.le_max_right _ _)⟩
                  have ib:∀f,aU f o (⟨q,aO,(ai av aw (J ax ay az) (J aB aC aD)).toList⟩:Pt).ty<=aG (h+2) P (ae 5 ac aa Y q (J (some ⟨c,0,I⟩) 1 X)).toList:=λf=>by
                   have a5:=h9 f;have bl:=(cv.out.2.2 _ (bG.out cj.c.kx).2.1).2.2.2;rw[Nat.mul_one] at a5;exact lT a5 bl
                  refine⟨av,aw,ax,ay,az,aB,aC,aD,b',ca,cb,h6,cV.ik,cT.out cW cm.2.2.1 cm.2.1,cT.out ((gd.block aZ (gE cW).1).trans cW) ge.2.2.1 ge.2.1,λck=>?_⟩;obtain⟨bK,T,bA,aP,aR,cU,eP,ic,gg,id,ie,eQ,B,a1,ig⟩:=cV.push ia ib (cl:=(gO q aO av aw (J ax ay az) (J aB aC aD))) Q Q (by intro bO cw;simp at cw;repeat(first|(subst cw;rfl)|(rcases cw with cw|cw;(subst cw;rfl)))) hW ck Q;refine⟨bK,T,bA,aP,aR,eP,ic,cT.out (au gg cW dC) (au gg cm.2.2.1 dC) (λb y bp=>(id.block b oM (λaM=>oH (gf b aM))).trans (cm.2.1 b y bp)),cT.out (au eQ cW dC) (au eQ cm.2.2.1 dC) (λb y bp=>(ie.block b oM (λaM=>oH (gf b aM))).trans (cm.2.1 b y bp)),cU,max bJ eO,Nat.le_max_left _ _,?_,au eQ h' dC⟩;rw[aT cv.out.1];exact ig
                 have KB29:Hid ((∀d,wr.drew.cell? ⟨aZ,d,I⟩=(ae 5 ac aa Y q (J (aS c) 1 X))[d]?)/\(∀d,wr.drew.cell? ⟨E (U P),d,I⟩=(ae 3 L C B z (J (aS u) (O R) G))[d]?)/\wr.drew.cell? ⟨c,0,I⟩=some (vN W)/\wr.drew.cell? ⟨c,1,I⟩=some (vN ak)/\wr.drew.cell? ⟨c,2,I⟩=some (vN ad)/\wr.drew.cell? ⟨c,3,I⟩=some (vN ao)/\wr.drew.cell? ⟨c,4,I⟩=some (.string ap)/\wr.drew.cell? ⟨c,5,I⟩=some (J aq ah ar)/\wr.drew.cell? ⟨c,6,I⟩=some (vN 0)/\wr.drew.cell? ⟨c,7,I⟩=some (vN 0)/\wr.drew.cell? ⟨c,8,I⟩=some aF/\wr.drew.cell? ⟨c,9,I⟩=some aF/\wr.drew.cell? ⟨c,10,I⟩=some aF):=cT.out b5 (bG.out p.c.kx).2.2.1 (bG.out (p.below ((Below.refl (E (U wr)) wr).drew)).c.kx).2.1;have cX:wr.heap[V]? =some (Ob #[.string ab,J bn (O A) bo] 67 (0,0)):=p.ik;have eC:=λd=>cell_of_row wr _ d _ 67 (0,0) cX;have eD:V<E (U wr):=(gE cX).1;have i7:(0:Int)<((1:Nat):Int):=dC;clear hZ h0;go_upto_region 29 with(go_at_call 35;refine(bN p.c.s.mk').mono ?_;rintro d4 a2 ⟨rfl,bg⟩;replace bg:=bg.symm;subst bg)
                 by_cases dB:Y=1
                 case' pos=>
                  have ih:(Y==1)=true:=sU dB;clear dB;refine wp_region_noPanic ?_;refine wp_region_held_drew (S:=(λt=>(Ce t aZ (ae 5 ac aa Y q (J (aS c) 1 X)))/\(Ce t (E (U P)) (ae 3 L C B z (J (aS u) (O R) G)))/\t.cell? ⟨c,0,I⟩=some (vN W)/\t.cell? ⟨c,1,I⟩=some (vN ak)/\t.cell? ⟨c,2,I⟩=some (vN ad)/\t.cell? ⟨c,3,I⟩=some (vN ao)/\t.cell? ⟨c,4,I⟩=some (.string ap)/\t.cell? ⟨c,5,I⟩=some (J aq ah ar)/\t.cell? ⟨c,6,I⟩=some (vN 0)/\t.cell? ⟨c,7,I⟩=some (vN 0)/\t.cell? ⟨c,8,I⟩=some aF/\t.cell? ⟨c,9,I⟩=some aF/\t.cell? ⟨c,10,I⟩=some aF)) kQ ?_ (λhHeld=>?_)
                  ·(try dsimp only)
                   (first|assumption|exact KB29.out|exact hS12|exact hS13|exact KS10|exact KS11)
                  refine aK 0 ?_;refine aK 2 ?_;refine aK 3 ?_;refine aK 4 ?_;refine aK 5 ?_;refine aK 6 ?_;refine aK 7 ?_;refine wpAnyH_take (i:=8) (v:=undef) (by simp only[List.getElem?_toArray,List.getElem?_cons_succ,List.getElem?_cons_zero];rfl) kQ kQ kQ (λ_ _ _ h=>h) (Or.inr ⟨rQ,Q⟩) (by assumption) ?_;try simp only[Act.put,List.setIfInBounds_toArray,List.set_cons_zero,List.set_cons_succ]
                  refine wpAnyH_take (i:=9) (v:=undef) (by simp only[List.getElem?_toArray,List.getElem?_cons_succ,List.getElem?_cons_zero];rfl) kQ kQ kQ (λ_ _ _ h=>h) (Or.inr ⟨rQ,Q⟩) (by assumption) ?_;try simp only[Act.put,List.setIfInBounds_toArray,List.set_cons_zero,List.set_cons_succ]
                  refine wpAnyH_take (i:=10) (v:=undef) (by simp only[List.getElem?_toArray,List.getElem?_cons_succ,List.getElem?_cons_zero];rfl) kQ kQ kQ (λ_ _ _ h=>h) (Or.inr ⟨rQ,Q⟩) (by assumption) ?_;try simp only[Act.put,List.setIfInBounds_toArray,List.set_cons_zero,List.set_cons_succ]
                  refine aK 11 ?_;refine aK 12 ?_;refine aK 13 ?_;refine aK 14 ?_;refine aK 15 ?_;refine aK 16 ?_;refine pU 1 17 (λK hK=>?_) (λK hK=>?_)
                  focus
                   go_simp;refine dV hK ?_;clear hK K hHeld;intro hHeld;refine eJ 17 (λK hK=>?_);go_simp
                   (go_at_call 50;refine dx.out.mono ?_;rintro eR o cn;obtain⟨av,aw,ax,ay,az,aB,aC,aD,b',ca,cb,rfl,bL,hS12,hS13,dD⟩:=dy.out true cn;have eS:=λd=>cell_of_row o _ d _ 67 (0,0) bL;have eT:V<E (U o):=(gE bL).1)
                   try go_wp2_with fail
                   refine dV hK ?_;clear hK K hHeld;intro hHeld;refine aK 18 ?_;refine eJ 19 (λK hK=>?_);go_simp
                  rotate_left
                  focus
                   go_simp
                   (go_at_call 50;refine dx.out.mono ?_;rintro eR o cn;obtain⟨av,aw,ax,ay,az,aB,aC,aD,b',ca,cb,rfl,bL,hS12,hS13,dD⟩:=dy.out true cn;have eS:=λd=>cell_of_row o _ d _ 67 (0,0) bL;have eT:V<E (U o):=(gE bL).1)
                   try go_wp2_with fail
                   refine dV hK ?_;clear hK K hHeld;intro hHeld;refine aK 18 ?_;refine pU 1 19 (λK hK=>?_) (λK hK=>?_)
                   focus
                    go_simp;refine dV hK ?_;clear hK K hHeld;intro hHeld;refine eJ 19 (λK hK=>?_);go_simp
                   rotate_left
                   focus
                    go_simp;refine dV hK ?_;clear hK K hHeld;intro hHeld;refine eJ 1 (λK hK=>?_);go_simp
                 case' neg=>
                  have ih:(Y==1)=false:=sU dB;clear dB;refine wp_region_noPanic ?_;refine wp_region_held_drew (S:=(λt=>(Ce t aZ (ae 5 ac aa Y q (J (aS c) 1 X)))/\(Ce t (E (U P)) (ae 3 L C B z (J (aS u) (O R) G)))/\t.cell? ⟨c,0,I⟩=some (vN W)/\t.cell? ⟨c,1,I⟩=some (vN ak)/\t.cell? ⟨c,2,I⟩=some (vN ad)/\t.cell? ⟨c,3,I⟩=some (vN ao)/\t.cell? ⟨c,4,I⟩=some (.string ap)/\t.cell? ⟨c,5,I⟩=some (J aq ah ar)/\t.cell? ⟨c,6,I⟩=some (vN 0)/\t.cell? ⟨c,7,I⟩=some (vN 0)/\t.cell? ⟨c,8,I⟩=some aF/\t.cell? ⟨c,9,I⟩=some aF/\t.cell? ⟨c,10,I⟩=some aF)) kQ ?_ (λhHeld=>?_)
                  ·(try dsimp only)
                   (first|assumption|exact KB29.out|exact hS12|exact hS13|exact KS10|exact KS11)
                  refine aK 0 ?_;refine aK 2 ?_;refine aK 3 ?_;refine aK 4 ?_;refine aK 5 ?_;refine aK 6 ?_;refine aK 7 ?_;refine aK 8 ?_;refine aK 9 ?_;refine aK 10 ?_;refine aK 11 ?_;refine aK 12 ?_;refine aK 13 ?_;refine aK 14 ?_;refine aK 15 ?_;refine aK 16 ?_;refine pU 1 17 (λK hK=>?_) (λK hK=>?_)
                  focus
                   go_simp;refine dV hK ?_;clear hK K hHeld;intro hHeld;refine eJ 17 (λK hK=>?_);go_simp
                   (go_at_call 50;refine dx.out.mono ?_;rintro eR o cn;obtain⟨av,aw,ax,ay,az,aB,aC,aD,b',ca,cb,rfl,bL,hS12,hS13,dD⟩:=dy.out (C==1) cn;have eS:=λd=>cell_of_row o _ d _ 67 (0,0) bL;have eT:V<E (U o):=(gE bL).1)
                   try go_wp2_with fail
                   refine dV hK ?_;clear hK K hHeld;intro hHeld;refine aK 18 ?_;refine eJ 19 (λK hK=>?_);go_simp
                  rotate_left
                  focus
                   go_simp
                   (go_at_call 50;refine dx.out.mono ?_;rintro eR o cn;obtain⟨av,aw,ax,ay,az,aB,aC,aD,b',ca,cb,rfl,bL,hS12,hS13,dD⟩:=dy.out (C==1) cn;have eS:=λd=>cell_of_row o _ d _ 67 (0,0) bL;have eT:V<E (U o):=(gE bL).1)
                   try go_wp2_with fail
                   refine dV hK ?_;clear hK K hHeld;intro hHeld;refine aK 18 ?_;refine pU 1 19 (λK hK=>?_) (λK hK=>?_)
                   focus
                    go_simp;refine dV hK ?_;clear hK K hHeld;intro hHeld;refine eJ 19 (λK hK=>?_);go_simp
                   rotate_left
                   focus
                    go_simp;refine dV hK ?_;clear hK K hHeld;intro hHeld;refine eJ 1 (λK hK=>?_);go_simp
                 all_goals
                  refine dV hK ?_;clear hK K hHeld;intro hHeld;refine eJ 20 (λK hK=>?_)
                  (refine bf 65 (v:=J bn (O A) bo) (xv:=J (aS (E (U o))) 1 1) rQ rQ rQ rQ (dD _) ?_;rintro bK eU ⟨aP,aR,rfl,eV,KS10,KS11,cU,dA,ii,dE,eW⟩;have i8:=λd=>cell_of_row eU _ d _ 67 (0,0) eV;have i9:=λd=>frozen_of_row eU V d _ 67 eV;have i':V<E (U eU):=(gE eV).1)
                  refine dV hK ?_;clear hK K hHeld;intro hHeld;refine aK 21 ?_;refine eJ 22 (λK hK=>?_);go_simp;refine dV hK ?_;clear hK K hHeld;intro hHeld;refine wpAnyH_done kQ ?_ _;refine NoPanic.normal ?_
                  have ij:∀x:Pt,Hid (O (A++[x])<=aN+1):=λx=>by
                   have:=dt.out;show(A++[x]).length<=aN+1;simp;omega
                  go_wp2_with (go_at_call 51;refine(jv dE.c.s.mk' dE.c.cv).mono ?_;rintro ja jb ⟨jc,jd,rfl,ik,gh,il⟩;have im:=dE.no gh ik il;have io:=(gh.block a3 (gE eW).1 (aI eW dE.c.s.mk' dC)).trans eW)
                  go_roundg (O N - (aN+1))
                  case measure=>rw[fX.out];omega
                  case rel=>exact⟨aN+1,_,_,b',ca,cb,cU,dA,aP,aR,_,Q,by go_num,ez,ij _,lT ey.out ii,im,io⟩
                ·have ip:(dv==0)=false:=sU cA;go_wp2_with (go_at_call 35;refine(bN p.c.s.mk').mono ?_;rintro d4 a2 ⟨rfl,bg⟩;replace bg:=bg.symm;subst bg)
                 go_roundg (O N - (aN+1))
                 case measure=>rw[fX.out];omega
                 case rel=>exact⟨aN+1,_,_,cO,cP,cQ,cR,bJ,bn,bo,A,Q,by go_num,ez,lT dt.out (Nat.le_succ _),ey,p.more (by rw[aT cv.out.1];omega),bT⟩
             ·have je:O aj<=20000:=oH b4.out;have hV:¬(aN:Int)<(O N:Int):=oM;have cX:wr.heap[V]? =some (Ob #[.string ab,J bn (O A) bo] 67 (0,0)):=p.ik;have eC:=λd=>cell_of_row wr _ d _ 67 (0,0) cX;have eD:V<E (U wr):=(gE cX).1
              have iq:∀x:Cs,Hid (O (Z++[x])<=j+1):=λx=>by
               have:=ej.out;show(Z++[x]).length<=j+1;simp;omega
              have ir:Hid (∀ck:TypeId,∃bK T,(Builtin.append_ #[62,62] ck #[J bc (O Z) bd,J (some ⟨E (U wr),0,I⟩) 1 1]).run Tryz.prog (wr.alloc (Ob #[.string ab,J bn (O A) bo] 67))=.ok bK T/\∃cx cy cY,bK=J cx (O (Z++[(⟨ab,bn,bo,A⟩:Cs)])) cy/\DC aW mb (E (U wc)) bb trs ims fns Xd' Xi Xf (λb=>Mu b\/b=E (U wc)) cY bJ br cx cy (Z++[(⟨ab,bn,bo,A⟩:Cs)]) (((aj.map (aG (h+3) P)).take (j+1)).sum) T dq dr cO cP cQ):=λck=>by
               obtain⟨bK,T,bA,cx,cy,cY,eP,iu⟩:=p.done eh.out.1 fI (oH dt.out) el ck Q;refine⟨bK,T,bA,cx,cy,cY,eP,iu.more ?_⟩;rw[aT fQ.out.1];have a5:=fQ.out.2;have bl:=bM (N.map (aG (h+2) P)) aN;omega
              go_wp2_with (at_builtin;refine bC 62 (v:=J bc (O Z) bd) (xv:=J (aS (E (U wr))) 1 1) rQ rQ rQ rQ (ir.out _) ?_;rintro bK jf ⟨cx,cy,cY,rfl,ct⟩)
              go_roundg (O aj - (j+1))
              case measure=>rw[hE.out];omega
              case rel=>exact⟨j+1,cx,cy,_,_,_,_,_,_,cY,bJ,Q,by go_num,sQ,ek,iq _,lT fK.out ey.out,ct⟩
        ·have hG:¬(j:Int)<(O aj:Int):=oM;have jg:¬(j:Int)<0:=oM;obtain⟨b0,iv⟩:∃b0,ds[bh]? =some b0:=⟨_,gG hd⟩;have el:O Z<=30000:=oI ej.out b4.out;have hF:=bq.fin eh.out.1 fI el b0;have co:=hF.1.shrink eh.out.2 (λ_ h=>h) (λb y=>.inl y);have gi:=hF.2.weaken (S':=λb=>¬Mu b) (λb y _ aM=>y (.inl aM));obtain⟨b1,cp⟩:∃b1:MK,b1=bb.bt k bR:=⟨_,Q⟩;have eX:b1.ds[bh]? =some b0:=by rw[cp,b7];exact iv
         have c0:b1.cV=some ⟨bj,0,I⟩:=by rw[cp,b7];exact gu
         have gj:O b1.ds=O ds:=by rw[cp,b7]
         have iw:O bb.ds=O ds:=by rw[b7]
         rw[<-cp] at co;obtain⟨ix,eY,jh,gl⟩:=co.pi.data eX;obtain rfl:bj=ix:=by rw[c0] at eY;simpa using eY
         have ji:wr.cell? ⟨bj,bh*10+8,I⟩=some (J b0.ao (O b0.cs) b0.cp):=gl 8 dC;obtain⟨jj,dF⟩:=aX co.pi.cu (b:=bj) (by rw[c0];rfl);have jk:wr.frozen? ⟨bj,bh*10+8,I⟩=false:=frozen_of_row wr bj _ _ 64 dF;have iy:mb≠bj:=aI co.mk' dF dC;have gm:=bG.out bq.kx;have iz:bF≠bj:=aI gm.2.2.2 dF dC
         have cN:wr.cell? ⟨mb,1,I⟩=some (J (aS bj) (O ds) M.dN):=by
          rw[co.mk'.cell 1];show some (Value.slice b1.cV (O b1.ds) b1.dN)=_;rw[c0,gj,cp,b7]
         have gn:Hid (∀{e:World},e.heap[mb]? =wr.heap[mb]? ->e.heap[bF]? =wr.heap[bF]? ->(e.cell? ⟨mb,1,I⟩=some (J (aS bj) (O ds) M.dN))/\(Ce e bF (dR ⟨df,dg,(bh:Int),dh⟩))):=λ{e} a5 bl=>⟨(World.cell?_of_block (w:=wr) (a:=⟨mb,1,I⟩) a5).trans cN,λd=>cell_of_row e _ d _ 117 (0,0) (bl.trans gm.2.2.2)⟩;have jl:(bh:Int)<(O ds:Int):=oM;have jm:(0:Int)<=(bh:Int):=oM
         have iA:Hid (DE ce mb M trs ims fns Xd Xi Xf Mu H ((ks.map (aG (h+4) w)).take (aE+1)).sum (wr.drew.setCell ⟨bj,bh*10+8,I⟩ (J bc (O Z) bd)) k bR (ds.set bh (b0.put bc bd Z)) bH (Xd'+(((aj.map (aG (h+3) P)).take j).sum))):=by
          have iB:=co.below ((Below.refl (E (U wr)) wr).drew)
          have iC:eB (λb=>¬Mu b) (O b1.ds) bH (((aj.map (aG (h+3) P)).take j).sum) wr.drew (b0.put bc bd Z):=by
           rw[gj,<-iw];exact gi.frame (λ_ _ _=>rfl) (lR _)
          have gp:=iB.xU eX c0 iC;have a8:=(bG.out bq.kx).1;have iD:=bQ.kx.size;refine⟨?_,by rw[List.length_set];exact bQ.dl,?_,lT bQ.hH fK.out,?_,?_⟩
          ·have z:=gp.1;rw[cp,b7] at z;exact z
          ·exact bQ.kx.trans ((a8.drew.trans (gp.2.1.mono (λ_ _ h=>h) a8.size)).mono (λ_ _ h=>h) iD)
          ·intro h;exact absurd (bQ.hf h).symm h
          ·rw[aT dP.out];have a5:=bQ.xd;have bl:=g5.out j;omega
         clear hF co gi gl dF eY eX c0 cp;go_wp2_with fail;go_region_held3 (λe=>(e.cell? ⟨mb,1,I⟩=some (J (aS bj) (O ds) M.dN))/\(Ce e bF (dR ⟨df,dg,(bh:Int),dh⟩))) (first|assumption|exact gn.out Q rfl|exact gn.out (Below.heap_setCell _ ⟨bj,_,I⟩ _ _ iy) (Below.heap_setCell _ ⟨bj,_,I⟩ _ _ iz)) (fail)
         go_wp2_with fail;go_roundg (O ks - (aE+1))
         case measure=>rw[dM.out];omega
         case rel=>exact⟨aE+1,_,_,_,_,_,Q,by go_num,cc,iA.out⟩
    ·have ip:(k==0)=false:=sU cA;go_wp2_with (go_at_call 35;refine(bN bP.s.mk').mono ?_;rintro d4 a2 ⟨rfl,bg⟩;replace bg:=bg.symm;subst bg)
     go_roundg (O ks - (aE+1))
     case measure=>rw[dM.out];omega
     case rel=>exact⟨aE+1,_,_,_,_,_,Q,by go_num,cc,bP.more (by rw[aT dP.out];omega)⟩
   ·have jn:(a8==3)=false:=sU e7;go_wp2_with fail;go_roundg (O ks - (aE+1))
    case measure=>rw[dM.out];omega
    case rel=>exact⟨aE+1,_,_,_,_,_,Q,by go_num,cc,bP.more (by rw[aT dP.out];omega)⟩
  ·have gw:¬(aE:Int)<(O ks:Int):=oM;go_wp2_with fail;go_end0;exact⟨k,a,ds,H',Xd',Q,a9.dl,a9.s,(bV.out a9.kx).1,a9.hH,a9.hf,lT a9.xd (Nat.add_le_add_left (bM _ _) _)⟩
end
end Go.Proofs.YtcnnibahjmekdaaGreat
