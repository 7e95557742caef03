import Derived.Test.YtdghkacbpebcoaaGreatS46
namespace Go.Proofs.YtdghkacbpebcoaaGreat
open Go.RowKit
open Value renaming slice→J
open List renaming length→O
open Option renaming none→I
open World renaming heap→U
open _root_.Array renaming size→E
open Obj renaming cells→Ob
set_option linter.all false
set_option maxRecDepth 100000
set_option maxHeartbeats 0
section
variable{a k:Int} {ds:List Dd} {M:MK} {F H H' Xd Xd' Xf Xi mb:Nat} {Mu:Nat->Prop} {fns au trs:VV} {w wr:World}
structure DE (w:World) (mb:Nat) (M:MK) (trs au fns:VV) (Xd Xi Xf:Nat) (Mu:Nat->Prop) (H F:Nat) (wr:World) (k a:Int) (ds:List Dd) (H' Xd':Nat):Prop where
 s:MS wr mb ({M with ds:=ds}.bu k a) trs au fns Xd' Xi Xf Mu H'
 dl:O ds=O M.ds
 kx:KX Mu (E (U w)) w wr
 hH:H<=H'
 hf:M.fk≠0->k=M.fk
 xd:Xd'<=Xd+F
theorem DE.below {w':World} (q:DE w mb M trs au fns Xd Xi Xf Mu H F wr k a ds H' Xd') (b:Below (E (U wr)) wr w'):DE w mb M trs au fns Xd Xi Xf Mu H F w' k a ds H' Xd':=
 ⟨q.s.below b,q.dl,q.kx.trans ((KX.al b).mono (λ_ _ h=>h) q.kx.size),q.hH,q.hf,q.xd⟩
theorem DE.more {b:Nat} (q:DE w mb M trs au fns Xd Xi Xf Mu H F wr k a ds H' Xd') (hF:F<=b):DE w mb M trs au fns Xd Xi Xf Mu H b wr k a ds H' Xd':=
 ⟨q.s,q.dl,q.kx,q.hH,q.hf,lT q.xd oM⟩
theorem vh {h:Nat} (hS:MS w mb M trs au fns Xd Xi Xf Mu H) {mod:Nat} {md:Md} (eZ:M.ms[mod]? =some md) {B0:Nat} (c2:∀b,Mu b->B0<=b) (gr:B0<=E (U w)) {pos n m:Int} {name:ByteArray} {ko:OA} {kc:Nat} {ks:VV} (bA:cU B0 w (J ko (O ks) kc) ks) (e0:∀i,i<O ks->∃g,ko=some ⟨g,0,I⟩) (c3:∀x∈ks,isNode (λb=>b<B0) True (h+4) w x) (e1:M.fk=0->∀(p n m:Int) (s:ByteArray) (kv:Value),(ae 3 p n m s kv).toList∈ks->∀r∈md.ns.take md.own,r.name.toList=s.toList->r.sort=0):
 Calls Tryz.prog 24 #[.pointer (some ⟨mb,0,I⟩),.int .i64 mod,.agg (ae 1 pos n m name (J ko (O ks) kc))] w (uo w mb M trs au fns Xd Xi Xf Mu H (ks.map (aG (h+4) w)).sum):=by
 have gs:B0<=mb:=c2 mb hS.dG;have iF:=bA.len.2;obtain⟨dL,e2⟩:=al1 w (Ob (ae 1 pos n m name (J ko (O ks) kc)) 48)
 have gt:Hid (∀aF,aF<O ks->∃g a8 L C B z bs bB G,ko=some ⟨g,0,I⟩/\g<B0/\ks[aF]? =some (ae a8 L C B z (J bs bB G)).toList/\∀e:World,KX Mu (E (U w)) w e->(∀j,j<11->e.cell? ⟨g,aF*11+j,I⟩=(ae a8 L C B z (J bs bB G)).toList[j]?)/\isNode (λb=>b<B0) True (h+4) e (ae a8 L C B z (J bs bB G)).toList/\aG (h+4) e (ae a8 L C B z (J bs bB G)).toList=aG (h+4) w (ae a8 L C B z (J bs bB G)).toList):=by
  intro aF ce;obtain⟨x,aU⟩:∃x,ks[aF]? =some x:=⟨_,gG ce⟩;have dM:=mG aU;obtain⟨a8,L,C,B,z,bs,bB,G,rfl,-⟩:=isNode.cells (c3 x dM);obtain⟨g,aK⟩:=e0 aF ce
  have dN:g<B0:=by
   obtain⟨c4,d,bC,dN,-⟩:=bA.nth aU;rw[aK] at bC;simp at bC;omega
  refine⟨g,a8,L,C,B,z,bs,bB,G,aK,dN,aU,λe bi=>?_⟩;have a4:aq (λb=>b<B0) w e:=λb y bp=>bi.block b bp (λaL=>oH (c2 b aL));obtain⟨c4,d,bC,-,bt⟩:=(bA.frame a4 gr).nth aU;rw[aK] at bC;obtain⟨rfl,rfl⟩:g=c4/\d=0:=by simp at bC;exact⟨bC.1,bC.2.symm⟩
  refine⟨λj b4=>?_,isNode.frame a4 _ _ (c3 _ dM),aT a4 _ _ (c3 _ dM) _⟩;have:=bt j b4;rw[Nat.zero_add] at this;exact this
 have bV:Hid (MS w mb M trs au fns Xd Xi Xf Mu H/\Below (E (U w)) w (w.alloc (Ob (ae 1 pos n m name (J ko (O ks) kc)) 48))/\(∀b,Mu b->B0<=b)/\(∀b,Mu b->b<E (U w))/\M.ms[mod]? =some md/\(M.fk=0->∀(p n m:Int) (s:ByteArray) (kv:Value),(ae 3 p n m s kv).toList∈ks->∀r∈md.ns.take md.own,r.name.toList=s.toList->r.sort=0)):=⟨hS,dL,c2,hS.mlt,eZ,e1⟩;have gu:Hid (∀{i:Nat} {x:List Value},ks[i]? =some x->(ks.map (aG (h+4) w))[i]? =some (aG (h+4) w x)):=λ{i x} aU=>by rw[List.getElem?_map,aU];rfl
 obtain⟨bj,gv⟩:∃g,M.df=some ⟨g,0,I⟩:=by
  have bu:=hS.pi.bj.1;obtain⟨bq,gw⟩:∃bq,M.ds[0]? =some bq:=⟨_,gG oM⟩;obtain⟨g,aK,-⟩:=hS.pi.data gw;exact⟨g,aK⟩
 have dO:DE (w.alloc (Ob (ae 1 pos n m name (J ko (O ks) kc)) 48)) mb M trs au fns Xd Xi Xf Mu H 0 (w.alloc (Ob (ae 1 pos n m name (J ko (O ks) kc)) 48)) M.fk M.fa M.ds H Xd:=⟨hS.below dL,Q,KX.refl _ _ _,lR _,λ_=>rfl,lR _⟩;obtain⟨cf,cB⟩:∃cf,cf=w.alloc (Ob (ae 1 pos n m name (J ko (O ks) kc)) 48):=⟨_,Q⟩;have iG:E (U cf)=E (U w)+1:=by rw[cB];simp
 have bY:Hid (∀{e:World},KX Mu (E (U cf)) cf e->KX Mu (E (U w)) w e/\e.heap[E (U w)]? =some (Ob (ae 1 pos n m name (J ko (O ks) kc)) 48 (0,0))):=λ{e} bi=>by
  rw[cB] at bi;refine⟨(KX.al bV.out.2.1).trans (bi.mono (λ_ _ h=>h) sQ),(bi.block _ sQ (λaL=>?_)).trans e2⟩;have:=bV.out.2.2.2.1 _ aL;omega
 rw[<-cB] at dO;clear hS c2 e1 bA e0 c3 eZ dL e2;go_enter Tryz.func24,Tryz.ntmps24
 go_wp2_with fail;rw[<-cB];clear cB;go_loopg [7,8,9,10,11,13,15,16,18,20,24] (O ks) (λbZ _ _ _ _ _ _ _ _ _ _ bP wr=>∃(aF:Nat) (k a:Int) (ds:List Dd) (H' Xd':Nat),bZ=O ks - aF/\bP=.int .i64 aF/\aF<=O ks/\DE cf mb M trs au fns Xd Xi Xf Mu H ((ks.map (aG (h+4) w)).take aF).sum wr k a ds H' Xd')
 case atStart=>exact⟨0,M.fk,M.fa,M.ds,H,Xd,Q,Q,zL _,by rw[List.take_zero,List.sum_nil];exact dO⟩
 case round=>
  clear dO;obtain⟨aF,k,a,ds,H',Xd',bk,rfl,iH,a9⟩:=hrel;have dP:Hid (gk=O ks - aF):=bk;clear bk;have e3:=λd=>cell_of_row wr _ d _ 48 (0,0) (bY.out a9.kx).2;have e4:E (U w)<E (U wr):=(gE (bY.out a9.kx).2).1;by_cases ce:aF<O ks
  ·have gx:(aF:Int)<(O ks:Int):=oM;obtain⟨g,a8,L,C,B,z,bs,bB,G,aK,dN,dQ,dR⟩:=gt.out aF ce;obtain rfl:ko=some ⟨g,0,I⟩:=aK;have e5:=dR wr (bY.out a9.kx).1;have b5:g<E (U wr):=oH (bY.out a9.kx).1.size;have e6:=qh e5.1;have dS:Hid ((ks.map (aG (h+4) w))[aF]? =some (aG (h+4) w (ae a8 L C B z (J bs bB G)).toList)):=gu.out dQ;have gz:Hid (ks[aF]? =some (ae a8 L C B z (J bs bB G)).toList):=dQ;have bQ:=a9.below (al1 wr (Ob (ae a8 L C B z (J bs bB G)) 48)).1;clear e5 dQ;by_cases e7:a8=3
   ·subst e7;by_cases cC:k=0
    ·subst cC;obtain⟨R,rfl,c5,c6,e8,e9,-,e',iI,-⟩:=(dR wr (bY.out a9.kx).1).2.1.kids;obtain⟨iJ,fa,fb⟩:=e8.data Q;obtain⟨fc,ai,cD,fd,fe⟩:=List.map_eq_cons_iff.1 fa;have iK:=c5.len.2
     have b6:Hid (O R=O ai+1):=by
      show O R=_;rw[cD];rfl
     have c7:R[0]? =some fc:=by rw[cD];rfl
     have dT:=c6 fc (mG c7);obtain⟨gA,c8,cE,cr,c9,c',gB,da,rfl,-⟩:=isNode.cells dT;obtain rfl:gA=9:=dt (n:=cE) (l:=gB) fd dC;obtain⟨cF,rfl,-,-,ff,-⟩:=dT.kids;have iL:O cF<=6100:=by have:=(ff.cF Q).1;simpa using this
     obtain⟨u,gC⟩:=e' 0 (oH b6.out);obtain rfl:bs=some ⟨u,0,I⟩:=gC;have dU:B0<=E (U wr):=oH (bY.out a9.kx).1.size
     have dV:Hid (∀{i:Nat} {x:List Value},R[i]? =some x->u<B0/\∀e:World,aq (λb=>b<B0) wr e->(∀j,j<11->e.cell? ⟨u,i*11+j,I⟩=x[j]?)/\isNode (λb=>b<B0) True (h+3) e x):=λ{i x} aU=>by
      obtain⟨c4,d,bC,gD,-⟩:=c5.nth aU;obtain⟨rfl,rfl⟩:u=c4/\d=0:=by simp at bC;exact⟨bC.1,bC.2.symm⟩
      refine⟨gD,λe a4=>⟨λj b4=>?_,isNode.frame a4 _ _ (c6 x (mG aU))⟩⟩;obtain⟨gF,d,dX,-,bt⟩:=(c5.frame a4 dU).nth aU;obtain⟨rfl,rfl⟩:u=gF/\d=0:=by simp at dX;exact⟨dX.1,dX.2.symm⟩
      have:=bt j b4;rw[Nat.zero_add] at this;exact this
     have bv:Hid (∀{e:World},aq (λb=>b<B0) wr e->(∀j,j<11->e.cell? ⟨u,j,I⟩=(ae 9 c8 cE cr c9 (J c' (O cF) da)).toList[j]?)/\isNode (λb=>b<B0) True (h+3) e (ae 9 c8 cE cr c9 (J c' (O cF) da)).toList):=λ{e} a4=>by
      have a5:=(dV.out c7).2 e a4;exact⟨λj b4=>by have:=a5.1 j b4;simpa using this,a5.2⟩
     have iM:u<B0:=(dV.out c7).1
     have gH:Hid (∀j,j<O ai->∃(a' a6 a1:Int) (ab:ByteArray) (a7:OA) (N:VV) (ba:Nat),(ai.map (aG (h+3) wr))[j]? =some (aG (h+3) wr (ae 4 a' a6 a1 ab (J a7 (O N) ba)).toList)/\O N<=20000/\aG (h+3) wr (ae 4 a' a6 a1 ab (J a7 (O N) ba)).toList=1+(N.map (aG (h+2) wr)).sum/\(∀e:World,aq (λb=>b<B0) wr e->∀i,i<11->e.cell? ⟨u,11+j*11+i,I⟩=(ae 4 a' a6 a1 ab (J a7 (O N) ba)).toList[i]?)/\∀i,i<O N->∃(aX:Nat) (ac aa Y:Int) (q:ByteArray) (c X:Nat) (W aj ad al:Int) (ao:ByteArray) (ap:OA) (ag ar:Nat),a7=some ⟨aX,0,I⟩/\aX<B0/\c<B0/\(N.map (aG (h+2) wr))[i]? =some (aG (h+2) wr (ae 5 ac aa Y q (J (some ⟨c,0,I⟩) 1 X)).toList)/\cx W/\∀e:World,aq (λb=>b<B0) wr e->(∀d,d<11->e.cell? ⟨aX,i*11+d,I⟩=(ae 5 ac aa Y q (J (some ⟨c,0,I⟩) 1 X)).toList[d]?)/\(∀d,d<11->e.cell? ⟨c,d,I⟩=(ae W aj ad al ao (J ap ag ar)).toList[d]?)/\isNode (λb=>b<B0) True (h+1) e (ae W aj ad al ao (J ap ag ar)).toList/\aG (h+1) e (ae W aj ad al ao (J ap ag ar)).toList<=aG (h+2) wr (ae 5 ac aa Y q (J (some ⟨c,0,I⟩) 1 X)).toList):=λj b4=>by
      obtain⟨x,aU⟩:∃x,ai[j]? =some x:=⟨_,gG b4⟩;have fg:R[j+1]? =some x:=by rw[cD];exact aU
      have fh:=c6 x (mG fg);obtain⟨fi,a',a6,a1,ab,a7,gI,ba,rfl,-⟩:=isNode.cells fh;have bp:fJ fi a6 gI=4:=fb _ (by rw[<-fe];exact List.mem_map_of_mem (f:=az) (mG aU));obtain rfl:fi=4:=dt bp dC;obtain⟨N,rfl,dY,gK,gL,gM,-,gN,-,-⟩:=fh.kids;refine⟨a',a6,a1,ab,a7,N,ba,by rw[List.getElem?_map,aU];rfl,dY.len.2,gM,λe a4 i cG=>?_,λi cG=>?_⟩
      ·have:=((dV.out fg).2 e a4).1 i cG;rw[show(j+1)*11+i=11+j*11+i by omega] at this;exact this
      ·obtain⟨bD,b0⟩:∃bD,N[i]? =some bD:=⟨_,gG cG⟩;have fj:=gK bD (mG b0);obtain⟨fk,ac,aa,Y,q,gO,gP,X,rfl,-⟩:=isNode.cells fj;have gQ:fJ fk aa gP=5:=gL.variant Q _ (List.mem_map_of_mem (f:=az) (mG b0));obtain rfl:fk=5:=dt gQ dC;obtain⟨fl,rfl,fm,gR,gT,gU,-,gV,-,-⟩:=fj.kids;obtain⟨d0,db,gW⟩:=gT.field Q
       obtain⟨cs,rfl⟩:∃cs,fl=[cs]:=by
        match fl,db with
        |[cs],_=>exact⟨cs,Q⟩
       obtain rfl:az cs=d0:=sU db;have d1:=gR cs sQ;obtain⟨W,aj,ad,al,ao,ap,ag,ar,rfl,-⟩:=isNode.cells d1;obtain⟨aX,cg⟩:=gN i cG;obtain⟨c,gX⟩:=gV 0 sQ;obtain rfl:a7=some ⟨aX,0,I⟩:=cg;obtain rfl:gO=some ⟨c,0,I⟩:=gX;obtain⟨gY,gZ,d2,g0,-⟩:=dY.nth b0;obtain⟨rfl,rfl⟩:aX=gY/\gZ=0:=by simp at d2;exact⟨d2.1,d2.2.symm⟩
       obtain⟨g1,g2,d3,g3,-⟩:=fm.nth (i:=0) (x:=(ae W aj ad al ao (J ap ag ar)).toList) Q;obtain⟨rfl,rfl⟩:c=g1/\g2=0:=by simp at d3;exact⟨d3.1,d3.2.symm⟩
       refine⟨aX,ac,aa,Y,q,c,X,W,aj,ad,al,ao,ap,ag,ar,Q,g0,g3,by rw[List.getElem?_map,b0];rfl,l9 (n:=ad) (l:=ag) gW,λe a4=>⟨λd d4=>?_,λd d4=>?_,isNode.frame a4 _ _ d1,?_⟩⟩
       ·obtain⟨d5,d6,ch,-,bt⟩:=(dY.frame a4 dU).nth b0;obtain⟨rfl,rfl⟩:aX=d5/\d6=0:=by simp at ch;exact⟨ch.1,ch.2.symm⟩
        have:=bt d d4;rw[Nat.zero_add] at this;exact this
       ·obtain⟨d5,d6,ch,-,bt⟩:=(fm.frame a4 dU).nth (i:=0) (x:=(ae W aj ad al ao (J ap ag ar)).toList) Q;obtain⟨rfl,rfl⟩:c=d5/\d6=0:=by simp at ch;exact⟨ch.1,ch.2.symm⟩
        have:=bt d d4;simpa using this
       ·rw[aT a4 _ _ d1 _];have g4:aG (h+2) wr (ae 5 ac aa Y q (J (some ⟨c,0,I⟩) 1 X)).toList=1+([(ae W aj ad al ao (J ap ag ar)).toList].map (aG (h+1) wr)).sum:=gU;rw[g4];simp
     have g5:Hid (∀i,1+((ai.map (aG (h+3) wr)).take i).sum<=aG (h+4) w (ae 3 L C B z (J (some ⟨u,0,I⟩) (O R) G)).toList):=λi=>by
      have a5:=bL (ai.map (aG (h+3) wr)) i;have bl:=(dR wr (bY.out a9.kx).1).2.2
      have iN:(R.map (aG (h+3) wr)).sum=aG (h+3) wr (ae 9 c8 cE cr c9 (J c' (O cF) da)).toList+(ai.map (aG (h+3) wr)).sum:=by
       rw[cD,List.map_cons,List.sum_cons]
      have g6:aG (h+4) wr (ae 3 L C B z (J (some ⟨u,0,I⟩) (O R) G)).toList=1+(R.map (aG (h+3) wr)).sum:=e9;rw[<-bl,g6];omega
     clear c5 c6 e8 e9 e' fa cD fd fe fb c7 dT ff;go_upto_region 5 with(go_at_call 30;refine(bM bQ.s.mk').mono ?_;rintro d7 a2 ⟨rfl,bf⟩;replace bf:=bf.symm;subst bf)
     go_cut [8,9] (λg7 g8 a2=>∃(bF:Nat) (fn:Bool) (r:Nm),g7=.pointer (aS bF)/\g8=.bool fn/\Below (E (U (wr.alloc (Ob (ae 3 L C B z (J (aS u) (O R) G)) 48)))) (wr.alloc (Ob (ae 3 L C B z (J (aS u) (O R) G)) 48)) a2/\bx a2 bF (dF r)/\E (U wr)<bF/\(0<=r.n/\r.n<(O ds:Int)))
     case first=>
      clear e3 e4 e6 b5;have cH:Hid (∀{e:World},Below (E (U (wr.alloc (Ob (ae 3 L C B z (J (aS u) (O R) G)) 48)))) (wr.alloc (Ob (ae 3 L C B z (J (aS u) (O R) G)) 48)) e->Below (E (U (wr.alloc (Ob (ae 3 L C B z (J (aS u) (O R) G)) 48)))) (wr.alloc (Ob (ae 3 L C B z (J (aS u) (O R) G)) 48)) e/\(Ce e mb (jM ({M with ds:=ds}.bu 0 a)))/\(Ce e (E (U wr)) (ae 3 L C B z (J (aS u) (O R) G)))):=λ{e} y=>⟨y,(bQ.s.mk'.below y).cell,λd=>cell_of_row e _ d _ 48 (0,0) ((y.block _ sQ).trans (al1 wr _).2)⟩
      have fo:Hid (∀(r:Nm) (b:Bool),(b=true->r∈md.ns.take md.own/\r.name.toList=z.toList)->(b=false->r=gJ/\∀bD∈md.ns.take md.own,bD.name.toList≠z.toList)->0<=r.n/\r.n<(O ds:Int)):=λr b g9 b7=>by
       have g':=bQ.s.pi.bj.1;have iO:1<=O ds:=g'
       cases b
       ·rw[(b7 Q).1];exact⟨Int.le_refl _,by show(0:Int)<_;omega⟩
       ·have bl:=g9 Q
        have ha:M.fk=0:=by
         by_cases d8:M.fk=0
         ·exact d8
         ·exact absurd (a9.hf d8).symm d8
        have hb:=bV.out.2.2.2.2.2 ha L C B z _ (mG gz.out) r bl.1 bl.2;have cI:=bQ.s.pi.q md (mG bV.out.2.2.2.2.1) r (List.mem_of_mem_take bl.1);exact⟨cI.1,cI.2.1 hb⟩
      go_region_held3 (λe=>Below (E (U (wr.alloc (Ob (ae 3 L C B z (J (aS u) (O R) G)) 48)))) (wr.alloc (Ob (ae 3 L C B z (J (aS u) (O R) G)) 48)) e/\(Ce e mb (jM ({M with ds:=ds}.bu 0 a)))/\(Ce e (E (U wr)) (ae 3 L C B z (J (aS u) (O R) G))))
       (first|assumption|exact cH.out ((Below.refl _ _).drew)|exact cH.out ((al1 _ _).1.drew)|exact cH.out b8|exact cH.out (b8.alloc b8.size _)|exact cH.out (Below.cM b8 sQ _ _ _ _))
       (first
        |(go_at_call 42;have cJ:=(‹Below (E (U (wr.alloc (Ob (ae 3 L C B z (J (aS u) (O R) G)) 48)))) (wr.alloc (Ob (ae 3 L C B z (J (aS u) (O R) G)) 48)) _/\_›).1;refine(pR (bQ.s.pi.cE.below cJ) _ _ _ _ _ _ (i:=mod) bV.out.2.2.2.2.1 _).mono ?_;rintro aK fp ⟨dc,dd,rfl,fq,fr,fs⟩;have b8:=cJ.trans (fs.mono cJ.size);have hc:=b8.size;first|(have de:bx fp (E (U wr)+1) (dF gJ):=(fs.block (E (U wr)+1) sQ).trans (dW wr _ _).2.2;have iP:=de.cell;have iQ:=de.fz;have iR:=de.lt)|skip))
      all_goals
       go_wp2_with fail;go_meet
       first
        |exact⟨E (U wr)+1,dd,dc,Q,Q,Below.cM b8 sQ _ _ _ _,bx.bQ de _ _ _ _,oM,fo.out dc dd fq fr⟩
        |exact⟨E (U fp),dd,dc,Q,Q,b8.alloc b8.size _,(al1 _ _).2,by simp at hc;omega,fo.out dc dd fq fr⟩
     case rest=>
      clear e3 e4 e6 b5;obtain⟨bF,fn,r,rfl,rfl,df,d9,iS,d'⟩:=hcut;obtain⟨dg,dh,ft,di⟩:=r;obtain⟨bh,rfl⟩:∃bh:Nat,ft=(bh:Int):=⟨ft.toNat,by have:=d'.1;simp at this;omega⟩;have hd:bh<O ds:=by have:=d'.2;simp at this;exact this
      clear d';have bR:=bQ.below df;have gj:wc.heap[E (U wr)]? =some (Ob (ae 3 L C B z (J (aS u) (O R) G)) 48 (0,0)):=(df.block _ sQ).trans (al1 wr _).2;have hf:E (U wr)<E (U wc):=(gE gj).1;have cK:∀b,Mu b->b<E (U w):=bV.out.2.2.2.1;have iT:E (U w)<=E (U wr):=(bY.out a9.kx).1.size;obtain⟨dj,X⟩:=al1 wc (Ob (dy ({mb:=mb,mod:=mod,aD:=I,cJ:=0,ba:=[],bZ:=I,tcp:=0,bt:=[],bO:=false,sk:=0,sn:=0,iJ:=I,iK:=0,iL:=0,iM:=I,iN:=0,iO:=0}:CK) 2 0 0 0 0) 114);obtain⟨aI,dk⟩:∃aI,aI=wc.alloc (Ob (dy ({mb:=mb,mod:=mod,aD:=I,cJ:=0,ba:=[],bZ:=I,tcp:=0,bt:=[],bO:=false,sk:=0,sn:=0,iJ:=I,iK:=0,iL:=0,iM:=I,iN:=0,iO:=0}:CK) 2 0 0 0 0) 114):=⟨_,Q⟩;have iU:E (U aI)=E (U wc)+1:=by rw[dk];simp
      rw[<-dk] at dj X;have cL:IE aI mb (E (U wc)) ({M with ds:=ds}.bu 0 a) trs au fns Xd' Xi Xf (λb=>Mu b\/b=E (U wc)) H' aI 0 a ({mb:=mb,mod:=mod,aD:=I,cJ:=0,ba:=[],bZ:=I,tcp:=0,bt:=[],bO:=false,sk:=0,sn:=0,iJ:=I,iK:=0,iL:=0,iM:=I,iN:=0,iO:=0}:CK) 2 0 0 0 0:=⟨bR.s.grow dj (λb y=>.inl y) (λb y=>by rcases y with y|y;(have:=cK b y;omega);omega) (λb bp y=>by rcases y with y|y;exact y;omega),KX.refl _ _ _,X,.inr Q,λ_=>rfl⟩
      have bm:Hid (∀{e:World},KX (λb=>Mu b\/b=E (U wc)) (E (U aI)) aI e->KX Mu (E (U wc)) wc e/\aq (λb=>b<B0) wr e/\e.heap[E (U wr)]? =some (Ob (ae 3 L C B z (J (aS u) (O R) G)) 48 (0,0))/\bx e bF (dF ⟨dg,dh,(bh:Int),di⟩)):=λ{e} bi=>by
       have dl:KX Mu (E (U wc)) wc e:=(KX.al dj).trans (bi.mono (λb bp y=>by rcases y with y|y;exact y;omega) oM);have hg:KX Mu (E (U wr)) wr e:=(KX.al ((al1 wr _).1.trans (df.mono (al1 wr _).1.size))).trans (dl.mono (λ_ _ h=>h) oM);refine⟨dl,λb y bp=>hg.block b bp (λaL=>oH (bV.out.2.2.1 b aL)),(dl.block _ hf (λaL=>?_)).trans gj,(dl.block _ d9.lt (λaL=>?_)).trans d9⟩
       ·have:=cK _ aL;omega
       ·have:=cK _ aL;omega
      have hh:mb≠E (U wc):=oH bR.s.mk'.lt;clear df bQ dj X d9 gj;have iV:(0:Int)<(O R:Int):=oH b6.out;go_upto_region 7 with fail
      generalize cI:World.alloc wc _=hi;obtain rfl:aI=hi:=dk.trans cI;clear dk cI;have ea:=λd=>cell_of_row aI _ d _ 48 (0,0) (bm.out (KX.refl _ _ _)).2.2.1;have eb:E (U wr)<E (U aI):=oM;have hj:aI.cell? ⟨u,0,I⟩=some (vN 9):=(bv.out (bm.out (KX.refl _ _ _)).2.1).1 0 dC;have hk:aI.cell? ⟨u,1,I⟩=some (vN c8):=(bv.out (bm.out (KX.refl _ _ _)).2.1).1 1 dC;have hl:aI.cell? ⟨u,2,I⟩=some (vN cE):=(bv.out (bm.out (KX.refl _ _ _)).2.1).1 2 dC;have hm:aI.cell? ⟨u,3,I⟩=some (vN cr):=(bv.out (bm.out (KX.refl _ _ _)).2.1).1 3 dC;have hn:aI.cell? ⟨u,4,I⟩=some (.string c9):=(bv.out (bm.out (KX.refl _ _ _)).2.1).1 4 dC;have ho:aI.cell? ⟨u,5,I⟩=some (J c' (O cF) da):=(bv.out (bm.out (KX.refl _ _ _)).2.1).1 5 dC;have hp:aI.cell? ⟨u,6,I⟩=some (vN 0):=(bv.out (bm.out (KX.refl _ _ _)).2.1).1 6 dC;have hq:aI.cell? ⟨u,7,I⟩=some (vN 0):=(bv.out (bm.out (KX.refl _ _ _)).2.1).1 7 dC;have hr:aI.cell? ⟨u,8,I⟩=some aH:=(bv.out (bm.out (KX.refl _ _ _)).2.1).1 8 dC;have hs:aI.cell? ⟨u,9,I⟩=some aH:=(bv.out (bm.out (KX.refl _ _ _)).2.1).1 9 dC;have ht:aI.cell? ⟨u,10,I⟩=some aH:=(bv.out (bm.out (KX.refl _ _ _)).2.1).1 10 dC;have b5:u<E (U aI):=oM;go_upto_region 8 with(go_at_call 43;refine(pz (h:=h+2) (K:=({mb:=mb,mod:=mod,aD:=I,cJ:=0,ba:=[],bZ:=I,tcp:=0,bt:=[],bO:=false,sk:=0,sn:=0,iJ:=I,iK:=0,iL:=0,iM:=I,iN:=0,iO:=0}:CK)) cL.s.mk' cL.cv hh oM gs (bv.out (bm.out cL.kx).2.1).2).mono ?_;rintro aK aW ⟨fu,fv,ct,fw,fx,cM,W,fy,rfl,hu,ec,fz,ed,fA,fB,-,ee⟩)
      have fC:=cL.nQ ed ec fz ee;have hv:=ed.size;have hw:O ct<=30000:=oM;have hx:O cM<=30000:=oM
      have fD:Hid (∀{e:World},KX (λb=>Mu b\/b=E (U wc)) (E (U aW)) aW e->e.ownsRow 0 9 1 (J fu (O ct) fv) (O ct) (bX ct)/\e.ownsRow 0 9 1 (J fw (O cM) fx) (O cM) (bX cM)):=λ{e} bi=>by
       have fE:∀(v:Value) (n:Nat) (ef:List Value),aW.ownsRow (E (U aI)) 9 1 v n ef->e.ownsRow 0 9 1 v n ef:=λv n ef bA=>ah (gy bA) (λb y bp=>bi.block b bp (λaL=>by
        have a5:=(bA.lt b y).1;rcases aL with aL|aL
        ·have:=cK b aL;omega
        ·omega))
       exact⟨fE _ _ _ fA,fE _ _ _ fB⟩
      obtain⟨br,fF⟩:∃br,br=({mb:=mb,mod:=mod,aD:=I,cJ:=0,ba:=[],bZ:=I,tcp:=0,bt:=[],bO:=false,sk:=0,sn:=0,iJ:=I,iK:=0,iL:=0,iM:=I,iN:=0,iO:=0}:CK).nm fu fv ct fw fx cM:=⟨_,Q⟩
      have fG:Hid (∀{e:World} {eg eh:Int},KX (λb=>Mu b\/b=E (U wc)) (E (U aW)) aW e->PI e mb (({M with ds:=ds}.bu 0 a).bu eg eh) (O trs)->Cx e (E (U wc)) br (({M with ds:=ds}.bu 0 a).bu eg eh) (O trs) (λ_=>False) 1 1):=λ{e eg eh} bi hy=>by
       have fH:=dz (S:=λ_=>False) (D:=O ds) (w:=e) (kind:=0) (n:=0) ⟨λaK=>absurd aK dC,dC,dC⟩;have hz:mod<O M.ms:=(gS bV.out.2.2.2.2.1).1;rw[fF];exact⟨(fD.out bi).1,hw,(fD.out bi).2,hx,hy,hz,fH.1,λ_ aU=>aU.elim,fH.2,lR _⟩
      have bH:Hid (∀{e:World},KX (λb=>Mu b\/b=E (U wc)) (E (U aW)) aW e->KX Mu (E (U wc)) wc e/\aq (λb=>b<B0) wr e/\e.heap[E (U wr)]? =some (Ob (ae 3 L C B z (J (aS u) (O R) G)) 48 (0,0))/\bx e bF (dF ⟨dg,dh,(bh:Int),di⟩)):=λ{e} bi=>bm.out (fC.kx.trans (bi.mono (λ_ _ h=>h) hv))
      have fI:∀b,(λb=>Mu b\/b=E (U wc)) b->b<E (U aW):=λb y=>by
       rcases y with y|y
       ·have:=cK b y;omega
       ·omega
      have ei:DC aW mb (E (U wc)) ({M with ds:=ds}.bu 0 a) trs au fns Xd' Xi Xf (λb=>Mu b\/b=E (U wc)) (λb=>Mu b\/b=E (U wc)) H' br I 0 [] 0 aW W fy (O ct) 0 0:=⟨fC.s,by rw[fF];exact ec,.inr Q,World.ownsRow_nil _ _ _ _,λb aK=>by simp[Value.ownBlock] at aK,λbw bt=>by simp at bt,λf=>by simp,KX.refl _ _ _,.inl bR.s.dG,λ_ h=>h,λ_ _ h=>h,ee⟩;obtain⟨bb,b9⟩:∃bb:MK,bb=({M with ds:=ds}.bu 0 a):=⟨_,Q⟩;rw[<-b9] at ei fG
      have ej:Hid (MS aI mb bb trs au fns Xd' Xi Xf (λb=>Mu b\/b=E (U wc)) H'/\MS wc mb bb trs au fns Xd' Xi Xf Mu H'):=by
       rw[b9];exact⟨cL.s,bR.s⟩
      clear hu ec fz ee fA fB ed hj hk hl hm hn ho hp hq hr hs ht b5 ea eb;have ea:=λd=>cell_of_row aW _ d _ 48 (0,0) (bH.out (KX.refl _ _ _)).2.2.1;have eb:E (U wr)<E (U aW):=oM;obtain⟨P,hA⟩:∃P,P=wr:=⟨_,Q⟩;subst hA;have iW:(O R:Int)<=(G:Int):=oM;have iX:(1:Int)<=(O R:Int):=oH b6.out
      have ek:Hid (∀{e:World} {b':Nat->Prop} {bI:Nat} {bc:OA} {bd:Nat} {Z:List Cs} {fK:Nat} {k bS next ci cj:Int},DC aW mb (E (U wc)) bb trs au fns Xd' Xi Xf (λb=>Mu b\/b=E (U wc)) b' bI br bc bd Z fK e k bS next ci cj->(∀b,b' b->B0<=b)/\B0<=E (U e)):=λ{e b' bI bc bd Z fK k bS next ci cj} bq=>by
       have iY:=bq.kx.size;refine⟨λb y=>?_,oM⟩;by_cases cJ:b<E (U aW)
       ·rcases bq.m2 b cJ y with a5|a5
        ·exact bV.out.2.2.1 b a5
        ·omega
       ·omega
      by_cases hB:G=1
      case' pos=>
       subst hB
       have hC:Hid (O ai=0):=by
        have:=b6.out;show _=_;omega
       go_wp2_with fail
      case' neg=>
       go_wp2_with fail;rw[show O R - 1=O ai from(oH b6.out)]
      all_goals
       clear ea eb;go_loopg [11,13,15,16,18,20,64] (O ai) (λbZ hD _ _ _ _ _ bP a2=>∃(j:Nat) (bc:OA) (bd:Nat) (Z:List Cs) (k bS next ci cj:Int) (b':Nat->Prop) (bI:Nat),bZ=O ai - j/\bP=.int .i64 j/\hD=J bc (O Z) bd/\j<=O ai/\Hid (O Z<=j)/\Hid (H'<=bI)/\DC aW mb (E (U wc)) bb trs au fns Xd' Xi Xf (λb=>Mu b\/b=E (U wc)) b' bI br bc bd Z (((ai.map (aG (h+3) P)).take j).sum) a2 k bS next ci cj)
       case atStart=>exact⟨0,I,0,[],W,fy,_,_,_,_,H',Q,Q,Q,zL _,zL _,lR _,by rw[List.take_zero,List.sum_nil];exact ei⟩
       case round=>
        clear ei;obtain⟨j,bc,bd,Z,k,bS,next,ci,cj,b',bI,bk,rfl,rfl,b4,el,fL,bq⟩:=hrel;have hE:Hid (gk=O ai - j):=bk;clear bk;by_cases em:j<O ai
        ·first
         |exact absurd em (oH hC.out)
         |have hG:(j:Int)<(O ai:Int):=by omega
          have en:O Z<=20000:=oI el.out b6.out;obtain⟨a',a6,a1,ab,a7,N,ba,fM,iZ,fN,fO,fP⟩:=gH.out j em;have fQ:Hid ((ai.map (aG (h+3) P))[j]? =some (aG (h+3) P (ae 4 a' a6 a1 ab (J a7 (O N) ba)).toList)/\aG (h+3) P (ae 4 a' a6 a1 ab (J a7 (O N) ba)).toList=1+(N.map (aG (h+2) P)).sum):=⟨fM,fN⟩;have hH:Hid (∀i,i<O N->∃(aX:Nat) (ac aa Y:Int) (q:ByteArray) (c X:Nat) (W aj ad al:Int) (ao:ByteArray) (ap:OA) (ag ar:Nat),a7=some ⟨aX,0,I⟩/\aX<B0/\c<B0/\(N.map (aG (h+2) P))[i]? =some (aG (h+2) P (ae 5 ac aa Y q (J (some ⟨c,0,I⟩) 1 X)).toList)/\cx W/\∀e:World,aq (λb=>b<B0) P e->(∀d,d<11->e.cell? ⟨aX,i*11+d,I⟩=(ae 5 ac aa Y q (J (some ⟨c,0,I⟩) 1 X)).toList[d]?)/\(∀d,d<11->e.cell? ⟨c,d,I⟩=(ae W aj ad al ao (J ap ag ar)).toList[d]?)/\isNode (λb=>b<B0) True (h+1) e (ae W aj ad al ao (J ap ag ar)).toList/\aG (h+1) e (ae W aj ad al ao (J ap ag ar)).toList<=aG (h+2) P (ae 5 ac aa Y q (J (some ⟨c,0,I⟩) 1 X)).toList):=fP;have fR:=fO wr (bH.out bq.kx).2.1;have hI:=qh fR;have b5:u<E (U wr):=oH (ek.out bq).2;obtain⟨fS,eo⟩:=al1 wr (Ob (ae 4 a' a6 a1 ab (J a7 (O N) ba)) 48);have ep:=bq.below fS;obtain⟨a3,eq⟩:∃a3,a3=E (U wr):=⟨_,Q⟩;obtain⟨fT,dm⟩:∃fT,fT=wr.alloc (Ob (ae 4 a' a6 a1 ab (J a7 (O N) ba)) 48):=⟨_,Q⟩;rw[<-dm,<-eq] at eo;rw[<-dm] at ep;clear fR fO fP fM fN fS;go_wp2_with fail;rw[<-dm,<-eq];clear dm eq bq hI b5;go_loopg [15,70] (O Z) (λbZ _ bP a2=>∃(i:Nat) (k bS:Int),bZ=O Z - i/\bP=.int .i64 i/\i<=O Z/\DC aW mb (E (U wc)) bb trs au fns Xd' Xi Xf (λb=>Mu b\/b=E (U wc)) b' bI br bc bd Z (((ai.map (aG (h+3) P)).take j).sum) a2 k bS next ci cj/\a2.heap[a3]? =some (Ob (ae 4 a' a6 a1 ab (J a7 (O N) ba)) 48 (0,0)))
          case atStart=>exact⟨0,k,bS,Q,Q,zL _,ep,eo⟩
          case round=>
           clear ep eo;obtain⟨i,hJ,hL,bk,rfl,cG,dn,cN⟩:=hrel;have hM:Hid (gk=O Z - i):=bk;clear bk;have hN:=λd=>cell_of_row wr _ d _ 48 (0,0) cN;have er:a3<E (U wr):=(gE cN).1;have hO:a3<E (U wr)+1:=oM;by_cases es:i<O Z
           ·have fU:(i:Int)<(O Z:Int):=oM;obtain⟨bw,bt⟩:∃bw,Z[i]? =some bw:=⟨_,gG es⟩;obtain⟨bJ,et,cg,hP,-,bz⟩:=aP dn.row sQ (λx aU=>by obtain⟨bD,_,rfl⟩:=List.mem_map.1 aU;rfl) (i:=i) (x:=bw.c) (by rw[List.getElem?_map,bt];rfl);obtain⟨rfl,rfl⟩:bc=some ⟨bJ,0,I⟩/\bd=et:=sU cg;have cr:wr.cell? ⟨bJ,i*2,I⟩=some (.string bw.name):=bz 0 dC;have B:wr.cell? ⟨bJ,i*2+1,I⟩=some (J bw.ao (O bw.ps) bw.cp):=bz 1 dC;obtain⟨ca,-⟩:=al1 wr (Ob #[.string bw.name,J bw.ao (O bw.ps) bw.cp] 95);have cu:=dn.below ca;have b1:=(ca.block a3 er).trans cN;clear bz cg bt ca;go_wp2_with (go_at_call 39;refine(bU cu.s.mk' _ _).mono ?_;rintro aK hQ ⟨⟨hR,hT,rfl,cO,cv,eu⟩,-⟩;have hU:=cu.no cv cO eu;have ev:=(cv.block a3 (gE b1).1 (aJ b1 cu.s.mk' dC)).trans b1)
            all_goals
             go_roundg (O Z - (i+1))
             case measure=>rw[hM.out];omega
             case rel=>
              first
               |exact⟨i+1,_,_,Q,by go_num,es,hU,ev⟩
               |exact⟨i+1,_,_,Q,by go_num,es,cu,b1⟩
           ·have fU:¬(i:Int)<(O Z:Int):=oM;have dp:=dn.var ab;obtain⟨V,ew⟩:∃V,V=E (U wr):=⟨_,Q⟩;obtain⟨ex,dq⟩:∃ex,ex=wr.alloc (Ob #[.string ab,J I 0 0] 95):=⟨_,Q⟩
            have fV:ex.heap[a3]? =some (Ob (ae 4 a' a6 a1 ab (J a7 (O N) ba)) 48 (0,0)):=by
             rw[dq];exact((al1 wr _).1.block a3 er).trans cN
            rw[<-dq,<-ew] at dp;obtain⟨ey,fW⟩:∃ey:Nat->Prop,ey=(λb=>b' b\/b=V):=⟨_,Q⟩;rw[<-fW] at dp;clear fW;go_wp2_with fail;rw[<-dq,<-ew];clear dq ew dn cN hN er hO fU;go_loopg [18,20,90] (O N) (λbZ _ _ bP a2=>∃(aN:Nat) (dr du cP cQ cR:Int) (cS:Nat->Prop) (bK:Nat) (bn:OA) (bo:Nat) (A:List Pt),bZ=O N - aN/\bP=.int .i64 aN/\aN<=O N/\Hid (O A<=aN)/\Hid (bI<=bK)/\DP aW mb (E (U wc)) V bb trs au fns Xd' Xi Xf (λb=>Mu b\/b=E (U wc)) cS bK br bc bd Z (((ai.map (aG (h+3) P)).take j).sum) ab bn bo A (((N.map (aG (h+2) P)).take aN).sum) a2 dr du cP cQ cR/\a2.heap[a3]? =some (Ob (ae 4 a' a6 a1 ab (J a7 (O N) ba)) 48 (0,0)))
            case atStart=>exact⟨0,hJ,hL,next,ci,cj,ey,bI,I,0,[],Q,Q,zL _,zL _,lR _,by rw[List.take_zero,List.sum_nil];exact dp,fV⟩
            case round=>
             clear dp fV;obtain⟨aN,dr,du,cP,cQ,cR,cS,bK,bn,bo,A,bk,rfl,i0,dv,ez,p,bT⟩:=hrel;have fX:Hid (gk=O N - aN):=bk;clear bk;by_cases eB:aN<O N
             ·have hV:(aN:Int)<(O N:Int):=oM;have hW:O A<=20000:=oH dv.out;obtain⟨aX,ac,aa,Y,q,c,X,W,aj,ad,al,ao,ap,ag,ar,aK,i1,i2,fY,fZ,eC⟩:=hH.out aN eB;obtain rfl:a7=some ⟨aX,0,I⟩:=aK;have cw:Hid ((N.map (aG (h+2) P))[aN]? =some (aG (h+2) P (ae 5 ac aa Y q (J (some ⟨c,0,I⟩) 1 X)).toList)/\cx W/\∀e:World,aq (λb=>b<B0) P e->(∀d,d<11->e.cell? ⟨aX,aN*11+d,I⟩=(ae 5 ac aa Y q (J (some ⟨c,0,I⟩) 1 X)).toList[d]?)/\(∀d,d<11->e.cell? ⟨c,d,I⟩=(ae W aj ad al ao (J ap ag ar)).toList[d]?)/\isNode (λb=>b<B0) True (h+1) e (ae W aj ad al ao (J ap ag ar)).toList/\aG (h+1) e (ae W aj ad al ao (J ap ag ar)).toList<=aG (h+2) P (ae 5 ac aa Y q (J (some ⟨c,0,I⟩) 1 X)).toList):=⟨fY,fZ,eC⟩;have f0:=eC wr (bH.out p.c.kx).2.1;have hX:=qh f0.1;have b5:aX<E (U wr):=oH (ek.out p.c).2;have eD:=λd=>cell_of_row wr _ d _ 95 (0,0) p.ie;have eE:V<E (U wr):=(gE p.ie).1;obtain⟨eF,eH⟩:=al1 wr (Ob (ae 5 ac aa Y q (J (aS c) 1 X)) 48);have eI:=p.below eF;have eJ:=(eF.block a3 (gE bT).1).trans bT;obtain⟨aZ,eK⟩:∃aZ,aZ=E (U wr):=⟨_,Q⟩;obtain⟨f1,dw⟩:∃f1,f1=wr.alloc (Ob (ae 5 ac aa Y q (J (aS c) 1 X)) 48):=⟨_,Q⟩;rw[<-dw,<-eK] at eH;rw[<-dw] at eI eJ;clear f0 fY fZ eC eF;go_wp2_with fail;rw[<-dw,<-eK];clear dw eK p bT eD eE hX b5;go_loopg [20,97] (O A) (λbZ _ bP a2=>∃(a0:Nat) (dx eL:Int),bZ=O A - a0/\bP=.int .i64 a0/\a0<=O A/\DP aW mb (E (U wc)) V bb trs au fns Xd' Xi Xf (λb=>Mu b\/b=E (U wc)) cS bK br bc bd Z (((ai.map (aG (h+3) P)).take j).sum) ab bn bo A (((N.map (aG (h+2) P)).take aN).sum) a2 dx eL cP cQ cR/\a2.heap[a3]? =some (Ob (ae 4 a' a6 a1 ab (J (some ⟨aX,0,I⟩) (O N) ba)) 48 (0,0))/\a2.heap[aZ]? =some (Ob (ae 5 ac aa Y q (J (some ⟨c,0,I⟩) 1 X)) 48 (0,0)))
              case atStart=>exact⟨0,dr,du,Q,Q,zL _,eI,eJ,eH⟩
              case round=>
               clear eI eJ eH;obtain⟨a0,dx,eL,bk,rfl,i3,p,bT,b7⟩:=hrel;have hY:Hid (gk=O A - a0):=bk;clear bk;have hZ:=λd=>cell_of_row wr _ d _ 48 (0,0) b7;have f2:aZ<E (U wr):=(gE b7).1;have h0:aZ<E (U wr)+1:=oM;by_cases eM:a0<O A
               ·have h1:(a0:Int)<(O A:Int):=oM;obtain⟨bD,b0⟩:∃bD,A[a0]? =some bD:=⟨_,gG eM⟩;obtain⟨bJ,et,cg,hP,-,bz⟩:=aP p.jU sQ (λx aU=>by obtain⟨d0,db,rfl⟩:=List.mem_map.1 aU;obtain⟨_,_,_,_,_,_,_,_,_,_,aK,_⟩:=p.pt d0 db;rw[aK];rfl) (i:=a0) (x:=bD.c) (by rw[List.getElem?_map,b0];rfl);obtain⟨rfl,rfl⟩:bn=some ⟨bJ,0,I⟩/\bo=et:=sU cg;obtain⟨f3,f4,f5,f6,f7,f8,f9,f',ga,gb,gc,-⟩:=p.pt bD (mG b0);rw[gc] at bz;have cr:wr.cell? ⟨bJ,a0*6,I⟩=some (.string f3):=bz 0 dC;have B:wr.cell? ⟨bJ,a0*6+1,I⟩=some (.bool f4):=bz 1 dC;have a1:wr.cell? ⟨bJ,a0*6+2,I⟩=some (vN f5):=bz 2 dC;have i4:wr.cell? ⟨bJ,a0*6+3,I⟩=some (vN f6):=bz 3 dC;have i5:wr.cell? ⟨bJ,a0*6+4,I⟩=some (J f7 f8 f9):=bz 4 dC;have i6:wr.cell? ⟨bJ,a0*6+5,I⟩=some (J f' ga gb):=bz 5 dC;obtain⟨ca,-⟩:=al1 wr (Ob (ix f3 f4 f5 f6 (J f7 f8 f9) (J f' ga gb)) 97);have cT:=p.below ca;have b1:=(ca.block a3 (gE bT).1).trans bT;have dA:=(ca.block aZ f2).trans b7;clear bz cg b0 ca gc;go_wp2_with (go_at_call 39;refine(bU cT.c.s.mk' _ _).mono ?_;rintro aK hQ ⟨⟨hR,hT,rfl,cO,cv,eu⟩,-⟩;have h2:=cT.no cv cO eu;have ev:=(cv.block a3 (gE b1).1 (aJ b1 cT.c.s.mk' dC)).trans b1;have h3:=(cv.block aZ (gE dA).1 (aJ dA cT.c.s.mk' dC)).trans dA)
                all_goals
                 go_roundg (O A - (a0+1))
                 case measure=>rw[hY.out];omega
                 case rel=>
                  first
                   |exact⟨a0+1,_,_,Q,by go_num,eM,h2,ev,h3⟩
                   |exact⟨a0+1,_,_,Q,by go_num,eM,cT,b1,dA⟩
               ·have h1:¬(a0:Int)<(O A:Int):=oM;by_cases cC:dx=0
                ·subst cC
                 have cV:Hid (∀{t:World},t.heap[aZ]? =some (Ob (ae 5 ac aa Y q (J (aS c) 1 X)) 48 (0,0))->t.heap[E (U P)]? =some (Ob (ae 3 L C B z (J (aS u) (O R) G)) 48 (0,0))->aq (λb=>b<B0) P t->(Ce t aZ (ae 5 ac aa Y q (J (aS c) 1 X)))/\(Ce t (E (U P)) (ae 3 L C B z (J (aS u) (O R) G)))/\t.cell? ⟨c,0,I⟩=some (vN W)/\t.cell? ⟨c,1,I⟩=some (vN aj)/\t.cell? ⟨c,2,I⟩=some (vN ad)/\t.cell? ⟨c,3,I⟩=some (vN al)/\t.cell? ⟨c,4,I⟩=some (.string ao)/\t.cell? ⟨c,5,I⟩=some (J ap ag ar)/\t.cell? ⟨c,6,I⟩=some (vN 0)/\t.cell? ⟨c,7,I⟩=some (vN 0)/\t.cell? ⟨c,8,I⟩=some aH/\t.cell? ⟨c,9,I⟩=some aH/\t.cell? ⟨c,10,I⟩=some aH):=λ{t} a5 bl a4=>by
                  have bu:=(cw.out.2.2 t a4).2.1;exact⟨λd=>cell_of_row t _ d _ 48 (0,0) a5,λd=>cell_of_row t _ d _ 48 (0,0) bl,bu 0 dC,bu 1 dC,bu 2 dC,bu 3 dC,bu 4 dC,bu 5 dC,bu 6 dC,bu 7 dC,bu 8 dC,bu 9 dC,bu 10 dC⟩
                 have h4:B0<=E (U wc):=oM
                 have dB:Hid (Calls Tryz.prog 44 #[.pointer (some ⟨E (U wc),0,I⟩),.agg (ae W aj ad al ao (J ap ag ar))] wr.drew (bE wr.drew (E (U wc)) br 2 0 (λ_=>False) (O bb.ds) (aG (h+1) wr.drew (ae W aj ad al ao (J ap ag ar)).toList*1))):=by
                  have ck:=p.below ((Below.refl (E (U wr)) wr).drew);exact yG (h+1) (fG.out ck.c.kx ck.c.s.pi) ck.c.cv h4 (cw.out.2.2 _ (bH.out ck.c.kx).2.1).2.2.1 cw.out.2.1
                 have dD:Hid (∀(aO:Bool) {aK:Ending} {o:World},bE wr.drew (E (U wc)) br 2 0 (λ_=>False) (O bb.ds) (aG (h+1) wr.drew (ae W aj ad al ao (J ap ag ar)).toList*1) aK o->∃(av ax:Int) (ay:OA) (aA aB:Nat) (aC:OA) (aD aE:Nat) (cb cc cd:Int),aK=.returned (.agg (ak av ax (J ay aA aB) (J aC aD aE)))/\o.heap[V]? =some (Ob #[.string ab,J bn (O A) bo] 95 (0,0))/\((∀d,o.cell? ⟨aZ,d,I⟩=(ae 5 ac aa Y q (J (some ⟨c,0,I⟩) 1 X))[d]?)/\(∀d,o.cell? ⟨E (U P),d,I⟩=(ae 3 L C B z (J (some ⟨u,0,I⟩) (O R) G))[d]?)/\o.cell? ⟨c,0,I⟩=some (.int .i64 W)/\o.cell? ⟨c,1,I⟩=some (.int .i64 aj)/\o.cell? ⟨c,2,I⟩=some (.int .i64 ad)/\o.cell? ⟨c,3,I⟩=some (.int .i64 al)/\o.cell? ⟨c,4,I⟩=some (.string ao)/\o.cell? ⟨c,5,I⟩=some (J ap ag ar)/\o.cell? ⟨c,6,I⟩=some (.int .i64 0)/\o.cell? ⟨c,7,I⟩=some (.int .i64 0)/\o.cell? ⟨c,8,I⟩=some aH/\o.cell? ⟨c,9,I⟩=some aH/\o.cell? ⟨c,10,I⟩=some aH)/\((∀d,(o.alloc (Ob (ix q aO av ax (J ay aA aB) (J aC aD aE)) 97)).cell? ⟨aZ,d,I⟩=(ae 5 ac aa Y q (J (some ⟨c,0,I⟩) 1 X))[d]?)/\(∀d,(o.alloc (Ob (ix q aO av ax (J ay aA aB) (J aC aD aE)) 97)).cell? ⟨E (U P),d,I⟩=(ae 3 L C B z (J (some ⟨u,0,I⟩) (O R) G))[d]?)/\(o.alloc (Ob (ix q aO av ax (J ay aA aB) (J aC aD aE)) 97)).cell? ⟨c,0,I⟩=some (.int .i64 W)/\(o.alloc (Ob (ix q aO av ax (J ay aA aB) (J aC aD aE)) 97)).cell? ⟨c,1,I⟩=some (.int .i64 aj)/\(o.alloc (Ob (ix q aO av ax (J ay aA aB) (J aC aD aE)) 97)).cell? ⟨c,2,I⟩=some (.int .i64 ad)/\(o.alloc (Ob (ix q aO av ax (J ay aA aB) (J aC aD aE)) 97)).cell? ⟨c,3,I⟩=some (.int .i64 al)/\(o.alloc (Ob (ix q aO av ax (J ay aA aB) (J aC aD aE)) 97)).cell? ⟨c,4,I⟩=some (.string ao)/\(o.alloc (Ob (ix q aO av ax (J ay aA aB) (J aC aD aE)) 97)).cell? ⟨c,5,I⟩=some (J ap ag ar)/\(o.alloc (Ob (ix q aO av ax (J ay aA aB) (J aC aD aE)) 97)).cell? ⟨c,6,I⟩=some (.int .i64 0)/\(o.alloc (Ob (ix q aO av ax (J ay aA aB) (J aC aD aE)) 97)).cell? ⟨c,7,I⟩=some (.int .i64 0)/\(o.alloc (Ob (ix q aO av ax (J ay aA aB) (J aC aD aE)) 97)).cell? ⟨c,8,I⟩=some aH/\(o.alloc (Ob (ix q aO av ax (J ay aA aB) (J aC aD aE)) 97)).cell? ⟨c,9,I⟩=some aH/\(o.alloc (Ob (ix q aO av ax (J ay aA aB) (J aC aD aE)) 97)).cell? ⟨c,10,I⟩=some aH)/\∀cm:TypeId,∃bN T,(Builtin.append_ #[93,93] cm #[J bn (O A) bo,J (some ⟨E (U o),0,I⟩) 1 1]).run Tryz.prog (o.alloc (Ob (ix q aO av ax (J ay aA aB) (J aC aD aE)) 97))=.ok bN T/\∃aQ aR,bN=J aQ (O A+1) aR/\T.heap[V]? =some (Ob #[.string ab,J bn (O A) bo] 95 (0,0))/\((∀d,T.cell? ⟨aZ,d,I⟩=(ae 5 ac aa Y q (J (some ⟨c,0,I⟩) 1 X))[d]?)/\(∀d,T.cell? ⟨E (U P),d,I⟩=(ae 3 L C B z (J (some ⟨u,0,I⟩) (O R) G))[d]?)/\T.cell? ⟨c,0,I⟩=some (.int .i64 W)/\T.cell? ⟨c,1,I⟩=some (.int .i64 aj)/\T.cell? ⟨c,2,I⟩=some (.int .i64 ad)/\T.cell? ⟨c,3,I⟩=some (.int .i64 al)/\T.cell? ⟨c,4,I⟩=some (.string ao)/\T.cell? ⟨c,5,I⟩=some (J ap ag ar)/\T.cell? ⟨c,6,I⟩=some (.int .i64 0)/\T.cell? ⟨c,7,I⟩=some (.int .i64 0)/\T.cell? ⟨c,8,I⟩=some aH/\T.cell? ⟨c,9,I⟩=some aH/\T.cell? ⟨c,10,I⟩=some aH)/\((∀d,(T.setCell ⟨V,1,I⟩ (J aQ (O A+1) aR)).cell? ⟨aZ,d,I⟩=(ae 5 ac aa Y q (J (some ⟨c,0,I⟩) 1 X))[d]?)/\(∀d,(T.setCell ⟨V,1,I⟩ (J aQ (O A+1) aR)).cell? ⟨E (U P),d,I⟩=(ae 3 L C B z (J (some ⟨u,0,I⟩) (O R) G))[d]?)/\(T.setCell ⟨V,1,I⟩ (J aQ (O A+1) aR)).cell? ⟨c,0,I⟩=some (.int .i64 W)/\(T.setCell ⟨V,1,I⟩ (J aQ (O A+1) aR)).cell? ⟨c,1,I⟩=some (.int .i64 aj)/\(T.setCell ⟨V,1,I⟩ (J aQ (O A+1) aR)).cell? ⟨c,2,I⟩=some (.int .i64 ad)/\(T.setCell ⟨V,1,I⟩ (J aQ (O A+1) aR)).cell? ⟨c,3,I⟩=some (.int .i64 al)/\(T.setCell ⟨V,1,I⟩ (J aQ (O A+1) aR)).cell? ⟨c,4,I⟩=some (.string ao)/\(T.setCell ⟨V,1,I⟩ (J aQ (O A+1) aR)).cell? ⟨c,5,I⟩=some (J ap ag ar)/\(T.setCell ⟨V,1,I⟩ (J aQ (O A+1) aR)).cell? ⟨c,6,I⟩=some (.int .i64 0)/\(T.setCell ⟨V,1,I⟩ (J aQ (O A+1) aR)).cell? ⟨c,7,I⟩=some (.int .i64 0)/\(T.setCell ⟨V,1,I⟩ (J aQ (O A+1) aR)).cell? ⟨c,8,I⟩=some aH/\(T.setCell ⟨V,1,I⟩ (J aQ (O A+1) aR)).cell? ⟨c,9,I⟩=some aH/\(T.setCell ⟨V,1,I⟩ (J aQ (O A+1) aR)).cell? ⟨c,10,I⟩=some aH)/\∃cW dE,bK<=dE/\DP aW mb (E (U wc)) V bb trs au fns Xd' Xi Xf (λb=>Mu b\/b=E (U wc)) cW dE br bc bd Z (((ai.map (aG (h+3) P)).take j).sum) ab aQ aR (A++[(⟨q,aO,(ak av ax (J ay aA aB) (J aC aD aE)).toList⟩:Pt)]) (((N.map (aG (h+2) P)).take (aN+1)).sum) (T.setCell ⟨V,1,I⟩ (J aQ (O A+1) aR)) 0 eL cb cc cd/\(T.setCell ⟨V,1,I⟩ (J aQ (O A+1) aR)).heap[a3]? =some (Ob (ae 4 a' a6 a1 ab (J (some ⟨aX,0,I⟩) (O N) ba)) 48 (0,0))):=λaO {aK o} h5=>by
                  obtain⟨av,ax,ay,aA,aB,aC,aD,aE,cb,cc,cd,h6,h7,eN,⟨eO,h8⟩,h9⟩:=h5;have ck:=p.below ((Below.refl (E (U wr)) wr).drew);have cX:=(ck.kp eN h7).le (Nat.le_max_left bK eO);have cY:o.heap[aZ]? =some (Ob (ae 5 ac aa Y q (J (aS c) 1 X)) 48 (0,0)):=(eN.block aZ f2 (aJ b7 p.c.cv dC)).trans b7;have h':o.heap[a3]? =some (Ob (ae 4 a' a6 a1 ab (J (aS aX) (O N) ba)) 48 (0,0)):=(eN.block a3 (gE bT).1 (aJ bT p.c.cv dC)).trans bT;have cn:=bH.out cX.c.kx;have gd:=(al1 o (Ob (ix q aO av ax (J ay aA aB) (J aC aD aE)) 97)).1;have ge:=bH.out (cX.below gd).c.kx;have gf:=(ek.out cX.c).1;have i7:E (U P)<=E (U o):=Nat.le_of_lt (gE cn.2.2.1).1
                  have ia:dZ (λb=>¬cS b) (O bb.ds) (max bK eO) o (⟨q,aO,(ak av ax (J ay aA aB) (J aC aD aE)).toList⟩:Pt).c:=⟨q,aO,av,ax,ay,aA,aB,aC,aD,aE,Q,af.le (af.weaken (λb y _ aL=>by
                   rcases y with y|y
                   ·exact y.elim
                   ·have a5:=p.c.s.mlt b aL;have bl:E (U wr)<=b:=y;omega) _ _ h8) _ (Nat.le_max_right _ _)⟩
                  have ib:∀f,bW f o (⟨q,aO,(ak av ax (J ay aA aB) (J aC aD aE)).toList⟩:Pt).ty<=aG (h+2) P (ae 5 ac aa Y q (J (some ⟨c,0,I⟩) 1 X)).toList:=λf=>by
                   have a5:=h9 f;have bl:=(cw.out.2.2 _ (bH.out ck.c.kx).2.1).2.2.2;rw[Nat.mul_one] at a5;exact lT a5 bl
                  refine⟨av,ax,ay,aA,aB,aC,aD,aE,cb,cc,cd,h6,cX.ie,cV.out cY cn.2.2.1 cn.2.1,cV.out ((gd.block aZ (gE cY).1).trans cY) ge.2.2.1 ge.2.1,λcm=>?_⟩;obtain⟨bN,T,bA,aQ,aR,cW,eP,ic,gg,id,ie,eQ,B,a1,ig⟩:=cX.push ia ib (cl:=(ix q aO av ax (J ay aA aB) (J aC aD aE))) Q Q (by intro bP cy;simp at cy;repeat(first|(subst cy;rfl)|(rcases cy with cy|cy;(subst cy;rfl)))) hW cm Q;refine⟨bN,T,bA,aQ,aR,eP,ic,cV.out (aw gg cY dC) (aw gg cn.2.2.1 dC) (λb y bp=>(id.block b oM (λaL=>oH (gf b aL))).trans (cn.2.1 b y bp)),cV.out (aw eQ cY dC) (aw eQ cn.2.2.1 dC) (λb y bp=>(ie.block b oM (λaL=>oH (gf b aL))).trans (cn.2.1 b y bp)),cW,max bK eO,Nat.le_max_left _ _,?_,aw eQ h' dC⟩;rw[aV cw.out.1];exact ig
                 have KB29:Hid ((∀d,wr.drew.cell? ⟨aZ,d,I⟩=(ae 5 ac aa Y q (J (aS c) 1 X))[d]?)/\(∀d,wr.drew.cell? ⟨E (U P),d,I⟩=(ae 3 L C B z (J (aS u) (O R) G))[d]?)/\wr.drew.cell? ⟨c,0,I⟩=some (vN W)/\wr.drew.cell? ⟨c,1,I⟩=some (vN aj)/\wr.drew.cell? ⟨c,2,I⟩=some (vN ad)/\wr.drew.cell? ⟨c,3,I⟩=some (vN al)/\wr.drew.cell? ⟨c,4,I⟩=some (.string ao)/\wr.drew.cell? ⟨c,5,I⟩=some (J ap ag ar)/\wr.drew.cell? ⟨c,6,I⟩=some (vN 0)/\wr.drew.cell? ⟨c,7,I⟩=some (vN 0)/\wr.drew.cell? ⟨c,8,I⟩=some aH/\wr.drew.cell? ⟨c,9,I⟩=some aH/\wr.drew.cell? ⟨c,10,I⟩=some aH):=cV.out b7 (bH.out p.c.kx).2.2.1 (bH.out (p.below ((Below.refl (E (U wr)) wr).drew)).c.kx).2.1;have cZ:wr.heap[V]? =some (Ob #[.string ab,J bn (O A) bo] 95 (0,0)):=p.ie;have eD:=λd=>cell_of_row wr _ d _ 95 (0,0) cZ;have eE:V<E (U wr):=(gE cZ).1;have i8:(0:Int)<((1:Nat):Int):=dC;clear hZ h0;go_upto_region 29 with(go_at_call 30;refine(bM p.c.s.mk').mono ?_;rintro d7 a2 ⟨rfl,bf⟩;replace bf:=bf.symm;subst bf)
                 by_cases dG:Y=1
                 case' pos=>
                  have ih:(Y==1)=true:=sU dG;clear dG;refine wp_region_noPanic ?_;refine wp_region_held_drew (S:=(λt=>(Ce t aZ (ae 5 ac aa Y q (J (aS c) 1 X)))/\(Ce t (E (U P)) (ae 3 L C B z (J (aS u) (O R) G)))/\t.cell? ⟨c,0,I⟩=some (vN W)/\t.cell? ⟨c,1,I⟩=some (vN aj)/\t.cell? ⟨c,2,I⟩=some (vN ad)/\t.cell? ⟨c,3,I⟩=some (vN al)/\t.cell? ⟨c,4,I⟩=some (.string ao)/\t.cell? ⟨c,5,I⟩=some (J ap ag ar)/\t.cell? ⟨c,6,I⟩=some (vN 0)/\t.cell? ⟨c,7,I⟩=some (vN 0)/\t.cell? ⟨c,8,I⟩=some aH/\t.cell? ⟨c,9,I⟩=some aH/\t.cell? ⟨c,10,I⟩=some aH)) kQ ?_ (λhHeld=>?_)
                  ·(try dsimp only)
                   (first|assumption|exact KB29.out|exact hS12|exact hS13|exact KS10|exact KS11)
                  refine aM 0 ?_;refine aM 2 ?_;refine aM 3 ?_;refine aM 4 ?_;refine aM 5 ?_;refine aM 6 ?_;refine aM 7 ?_;refine wpAnyH_take (i:=8) (v:=undef) (by simp only[List.getElem?_toArray,List.getElem?_cons_succ,List.getElem?_cons_zero];rfl) kQ kQ kQ (λ_ _ _ h=>h) (Or.inr ⟨rQ,Q⟩) (by assumption) ?_;try simp only[Act.put,List.setIfInBounds_toArray,List.set_cons_zero,List.set_cons_succ]
                  refine wpAnyH_take (i:=9) (v:=undef) (by simp only[List.getElem?_toArray,List.getElem?_cons_succ,List.getElem?_cons_zero];rfl) kQ kQ kQ (λ_ _ _ h=>h) (Or.inr ⟨rQ,Q⟩) (by assumption) ?_;try simp only[Act.put,List.setIfInBounds_toArray,List.set_cons_zero,List.set_cons_succ]
                  refine wpAnyH_take (i:=10) (v:=undef) (by simp only[List.getElem?_toArray,List.getElem?_cons_succ,List.getElem?_cons_zero];rfl) kQ kQ kQ (λ_ _ _ h=>h) (Or.inr ⟨rQ,Q⟩) (by assumption) ?_;try simp only[Act.put,List.setIfInBounds_toArray,List.set_cons_zero,List.set_cons_succ]
                  refine aM 11 ?_;refine aM 12 ?_;refine aM 13 ?_;refine aM 14 ?_;refine aM 15 ?_;refine aM 16 ?_;refine pM 1 17 (λK hK=>?_) (λK hK=>?_)
                  focus
                   go_simp;refine dH hK ?_;clear hK K hHeld;intro hHeld;refine eA 17 (λK hK=>?_);go_simp
                   (go_at_call 44;refine dB.out.mono ?_;rintro eR o co;obtain⟨av,ax,ay,aA,aB,aC,aD,aE,cb,cc,cd,rfl,bO,hS12,hS13,dI⟩:=dD.out true co;have eS:=λd=>cell_of_row o _ d _ 95 (0,0) bO;have eT:V<E (U o):=(gE bO).1)
                   try go_wp2_with fail
                   refine dH hK ?_;clear hK K hHeld;intro hHeld;refine aM 18 ?_;refine eA 19 (λK hK=>?_);go_simp
                  rotate_left
                  focus
                   go_simp
                   (go_at_call 44;refine dB.out.mono ?_;rintro eR o co;obtain⟨av,ax,ay,aA,aB,aC,aD,aE,cb,cc,cd,rfl,bO,hS12,hS13,dI⟩:=dD.out true co;have eS:=λd=>cell_of_row o _ d _ 95 (0,0) bO;have eT:V<E (U o):=(gE bO).1)
                   try go_wp2_with fail
                   refine dH hK ?_;clear hK K hHeld;intro hHeld;refine aM 18 ?_;refine pM 1 19 (λK hK=>?_) (λK hK=>?_)
                   focus
                    go_simp;refine dH hK ?_;clear hK K hHeld;intro hHeld;refine eA 19 (λK hK=>?_);go_simp
                   rotate_left
                   focus
                    go_simp;refine dH hK ?_;clear hK K hHeld;intro hHeld;refine eA 1 (λK hK=>?_);go_simp
                 case' neg=>
                  have ih:(Y==1)=false:=sU dG;clear dG;refine wp_region_noPanic ?_;refine wp_region_held_drew (S:=(λt=>(Ce t aZ (ae 5 ac aa Y q (J (aS c) 1 X)))/\(Ce t (E (U P)) (ae 3 L C B z (J (aS u) (O R) G)))/\t.cell? ⟨c,0,I⟩=some (vN W)/\t.cell? ⟨c,1,I⟩=some (vN aj)/\t.cell? ⟨c,2,I⟩=some (vN ad)/\t.cell? ⟨c,3,I⟩=some (vN al)/\t.cell? ⟨c,4,I⟩=some (.string ao)/\t.cell? ⟨c,5,I⟩=some (J ap ag ar)/\t.cell? ⟨c,6,I⟩=some (vN 0)/\t.cell? ⟨c,7,I⟩=some (vN 0)/\t.cell? ⟨c,8,I⟩=some aH/\t.cell? ⟨c,9,I⟩=some aH/\t.cell? ⟨c,10,I⟩=some aH)) kQ ?_ (λhHeld=>?_)
                  ·(try dsimp only)
                   (first|assumption|exact KB29.out|exact hS12|exact hS13|exact KS10|exact KS11)
                  refine aM 0 ?_;refine aM 2 ?_;refine aM 3 ?_;refine aM 4 ?_;refine aM 5 ?_;refine aM 6 ?_;refine aM 7 ?_;refine aM 8 ?_;refine aM 9 ?_;refine aM 10 ?_;refine aM 11 ?_;refine aM 12 ?_;refine aM 13 ?_;refine aM 14 ?_;refine aM 15 ?_;refine aM 16 ?_;refine pM 1 17 (λK hK=>?_) (λK hK=>?_)
                  focus
                   go_simp;refine dH hK ?_;clear hK K hHeld;intro hHeld;refine eA 17 (λK hK=>?_);go_simp
                   (go_at_call 44;refine dB.out.mono ?_;rintro eR o co;obtain⟨av,ax,ay,aA,aB,aC,aD,aE,cb,cc,cd,rfl,bO,hS12,hS13,dI⟩:=dD.out (C==1) co;have eS:=λd=>cell_of_row o _ d _ 95 (0,0) bO;have eT:V<E (U o):=(gE bO).1)
                   try go_wp2_with fail
                   refine dH hK ?_;clear hK K hHeld;intro hHeld;refine aM 18 ?_;refine eA 19 (λK hK=>?_);go_simp
                  rotate_left
                  focus
                   go_simp
                   (go_at_call 44;refine dB.out.mono ?_;rintro eR o co;obtain⟨av,ax,ay,aA,aB,aC,aD,aE,cb,cc,cd,rfl,bO,hS12,hS13,dI⟩:=dD.out (C==1) co;have eS:=λd=>cell_of_row o _ d _ 95 (0,0) bO;have eT:V<E (U o):=(gE bO).1)
                   try go_wp2_with fail
                   refine dH hK ?_;clear hK K hHeld;intro hHeld;refine aM 18 ?_;refine pM 1 19 (λK hK=>?_) (λK hK=>?_)
                   focus
                    go_simp;refine dH hK ?_;clear hK K hHeld;intro hHeld;refine eA 19 (λK hK=>?_);go_simp
                   rotate_left
                   focus
                    go_simp;refine dH hK ?_;clear hK K hHeld;intro hHeld;refine eA 1 (λK hK=>?_);go_simp
                 all_goals
                  refine dH hK ?_;clear hK K hHeld;intro hHeld;refine eA 20 (λK hK=>?_)
                  (refine bg 93 (v:=J bn (O A) bo) (xv:=J (aS (E (U o))) 1 1) rQ rQ rQ rQ (dI _) ?_;rintro bN eU ⟨aQ,aR,rfl,eV,KS10,KS11,cW,dE,ii,dJ,eW⟩;have i9:=λd=>cell_of_row eU _ d _ 95 (0,0) eV;have i':=λd=>frozen_of_row eU V d _ 95 eV;have ja:V<E (U eU):=(gE eV).1)
                  refine dH hK ?_;clear hK K hHeld;intro hHeld;refine aM 21 ?_;refine eA 22 (λK hK=>?_);go_simp;refine dH hK ?_;clear hK K hHeld;intro hHeld;refine wpAnyH_done kQ ?_ _;refine NoPanic.normal ?_
                  have ij:∀x:Pt,Hid (O (A++[x])<=aN+1):=λx=>by
                   have:=dv.out;show(A++[x]).length<=aN+1;simp;omega
                  go_wp2_with (go_at_call 45;refine(jt dJ.c.s.mk' dJ.c.cv).mono ?_;rintro jb jc ⟨jd,je,rfl,ik,gh,il⟩;have im:=dJ.no gh ik il;have io:=(gh.block a3 (gE eW).1 (aJ eW dJ.c.s.mk' dC)).trans eW)
                  go_roundg (O N - (aN+1))
                  case measure=>rw[fX.out];omega
                  case rel=>exact⟨aN+1,_,_,cb,cc,cd,cW,dE,aQ,aR,_,Q,by go_num,eB,ij _,lT ez.out ii,im,io⟩
                ·have ip:(dx==0)=false:=sU cC;go_wp2_with (go_at_call 30;refine(bM p.c.s.mk').mono ?_;rintro d7 a2 ⟨rfl,bf⟩;replace bf:=bf.symm;subst bf)
                 go_roundg (O N - (aN+1))
                 case measure=>rw[fX.out];omega
                 case rel=>exact⟨aN+1,_,_,cP,cQ,cR,cS,bK,bn,bo,A,Q,by go_num,eB,lT dv.out (Nat.le_succ _),ez,p.more (by rw[aV cw.out.1];omega),bT⟩
             ·have jf:O ai<=20000:=oH b6.out;have hV:¬(aN:Int)<(O N:Int):=oM;have cZ:wr.heap[V]? =some (Ob #[.string ab,J bn (O A) bo] 95 (0,0)):=p.ie;have eD:=λd=>cell_of_row wr _ d _ 95 (0,0) cZ;have eE:V<E (U wr):=(gE cZ).1
              have iq:∀x:Cs,Hid (O (Z++[x])<=j+1):=λx=>by
               have:=el.out;show(Z++[x]).length<=j+1;simp;omega
              have ir:Hid (∀cm:TypeId,∃bN T,(Builtin.append_ #[67,67] cm #[J bc (O Z) bd,J (some ⟨E (U wr),0,I⟩) 1 1]).run Tryz.prog (wr.alloc (Ob #[.string ab,J bn (O A) bo] 95))=.ok bN T/\∃cz cA c0,bN=J cz (O (Z++[(⟨ab,bn,bo,A⟩:Cs)])) cA/\DC aW mb (E (U wc)) bb trs au fns Xd' Xi Xf (λb=>Mu b\/b=E (U wc)) c0 bK br cz cA (Z++[(⟨ab,bn,bo,A⟩:Cs)]) (((ai.map (aG (h+3) P)).take (j+1)).sum) T dr du cP cQ cR):=λcm=>by
               obtain⟨bN,T,bA,cz,cA,c0,eP,iu⟩:=p.done ej.out.1 fI (oH dv.out) en cm Q;refine⟨bN,T,bA,cz,cA,c0,eP,iu.more ?_⟩;rw[aV fQ.out.1];have a5:=fQ.out.2;have bl:=bL (N.map (aG (h+2) P)) aN;omega
              go_wp2_with (at_builtin;refine bG 67 (v:=J bc (O Z) bd) (xv:=J (aS (E (U wr))) 1 1) rQ rQ rQ rQ (ir.out _) ?_;rintro bN jg ⟨cz,cA,c0,rfl,cu⟩)
              go_roundg (O ai - (j+1))
              case measure=>rw[hE.out];omega
              case rel=>exact⟨j+1,cz,cA,_,_,_,_,_,_,c0,bK,Q,by go_num,sQ,em,iq _,lT fL.out ez.out,cu⟩
        ·have hG:¬(j:Int)<(O ai:Int):=oM;have jh:¬(j:Int)<0:=oM;obtain⟨b2,iv⟩:∃b2,ds[bh]? =some b2:=⟨_,gG hd⟩;have en:O Z<=30000:=oI el.out b6.out;have hF:=bq.fin ej.out.1 fI en b2;have cp:=hF.1.shrink ej.out.2 (λ_ h=>h) (λb y=>.inl y);have gi:=hF.2.weaken (S':=λb=>¬Mu b) (λb y _ aL=>y (.inl aL));obtain⟨b3,cq⟩:∃b3:MK,b3=bb.bu k bS:=⟨_,Q⟩;have eX:b3.ds[bh]? =some b2:=by rw[cq,b9];exact iv
         have c1:b3.df=some ⟨bj,0,I⟩:=by rw[cq,b9];exact gv
         have gl:O b3.ds=O ds:=by rw[cq,b9]
         have iw:O bb.ds=O ds:=by rw[b9]
         rw[<-cq] at cp;obtain⟨iy,eY,ji,gm⟩:=cp.pi.data eX;obtain rfl:bj=iy:=by rw[c1] at eY;simpa using eY
         have jj:wr.cell? ⟨bj,bh*10+8,I⟩=some (J b2.ao (O b2.cs) b2.cp):=gm 8 dC;obtain⟨jk,dK⟩:=aY cp.pi.cd (b:=bj) (by rw[c1];rfl);have jl:wr.frozen? ⟨bj,bh*10+8,I⟩=false:=frozen_of_row wr bj _ _ 69 dK;have iz:mb≠bj:=aJ cp.mk' dK dC;have gn:=bH.out bq.kx;have iA:bF≠bj:=aJ gn.2.2.2 dK dC
         have cO:wr.cell? ⟨mb,1,I⟩=some (J (aS bj) (O ds) M.eo):=by
          rw[cp.mk'.cell 1];show some (Value.slice b3.df (O b3.ds) b3.eo)=_;rw[c1,gl,cq,b9]
         have gp:Hid (∀{e:World},e.heap[mb]? =wr.heap[mb]? ->e.heap[bF]? =wr.heap[bF]? ->(e.cell? ⟨mb,1,I⟩=some (J (aS bj) (O ds) M.eo))/\(Ce e bF (dF ⟨dg,dh,(bh:Int),di⟩))):=λ{e} a5 bl=>⟨(World.cell?_of_block (w:=wr) (a:=⟨mb,1,I⟩) a5).trans cO,λd=>cell_of_row e _ d _ 104 (0,0) (bl.trans gn.2.2.2)⟩;have jm:(bh:Int)<(O ds:Int):=oM;have jn:(0:Int)<=(bh:Int):=oM
         have iB:Hid (DE cf mb M trs au fns Xd Xi Xf Mu H ((ks.map (aG (h+4) w)).take (aF+1)).sum (wr.drew.setCell ⟨bj,bh*10+8,I⟩ (J bc (O Z) bd)) k bS (ds.set bh (b2.put bc bd Z)) bI (Xd'+(((ai.map (aG (h+3) P)).take j).sum))):=by
          have iC:=cp.below ((Below.refl (E (U wr)) wr).drew)
          have iD:eG (λb=>¬Mu b) (O b3.ds) bI (((ai.map (aG (h+3) P)).take j).sum) wr.drew (b2.put bc bd Z):=by
           rw[gl,<-iw];exact gi.frame (λ_ _ _=>rfl) (lR _)
          have gq:=iC.xy eX c1 iD;have a8:=(bH.out bq.kx).1;have iE:=bR.kx.size;refine⟨?_,by rw[List.length_set];exact bR.dl,?_,lT bR.hH fL.out,?_,?_⟩
          ·have z:=gq.1;rw[cq,b9] at z;exact z
          ·exact bR.kx.trans ((a8.drew.trans (gq.2.1.mono (λ_ _ h=>h) a8.size)).mono (λ_ _ h=>h) iE)
          ·intro h;exact absurd (bR.hf h).symm h
          ·rw[aV dS.out];have a5:=bR.xd;have bl:=g5.out j;omega
         clear hF cp gi gm dK eY eX c1 cq;go_wp2_with fail;go_region_held3 (λe=>(e.cell? ⟨mb,1,I⟩=some (J (aS bj) (O ds) M.eo))/\(Ce e bF (dF ⟨dg,dh,(bh:Int),di⟩))) (first|assumption|exact gp.out Q rfl|exact gp.out (Below.heap_setCell _ ⟨bj,_,I⟩ _ _ iz) (Below.heap_setCell _ ⟨bj,_,I⟩ _ _ iA)) (fail)
         go_wp2_with fail;go_roundg (O ks - (aF+1))
         case measure=>rw[dP.out];omega
         case rel=>exact⟨aF+1,_,_,_,_,_,Q,by go_num,ce,iB.out⟩
    ·have ip:(k==0)=false:=sU cC;go_wp2_with (go_at_call 30;refine(bM bQ.s.mk').mono ?_;rintro d7 a2 ⟨rfl,bf⟩;replace bf:=bf.symm;subst bf)
     go_roundg (O ks - (aF+1))
     case measure=>rw[dP.out];omega
     case rel=>exact⟨aF+1,_,_,_,_,_,Q,by go_num,ce,bQ.more (by rw[aV dS.out];omega)⟩
   ·have jo:(a8==3)=false:=sU e7;go_wp2_with fail;go_roundg (O ks - (aF+1))
    case measure=>rw[dP.out];omega
    case rel=>exact⟨aF+1,_,_,_,_,_,Q,by go_num,ce,bQ.more (by rw[aV dS.out];omega)⟩
  ·have gx:¬(aF:Int)<(O ks:Int):=oM;go_wp2_with fail;go_end0;exact⟨k,a,ds,H',Xd',Q,a9.dl,a9.s,(bY.out a9.kx).1,a9.hH,a9.hf,lT a9.xd (Nat.add_le_add_left (bL _ _) _)⟩
end
end Go.Proofs.YtdghkacbpebcoaaGreat
