import Derived.Test.YtdghkacbpebcoaaGreatS46
namespace Go.Proofs.YtdghkacbpebcoaaGreat
open Go.RowKit
open Value renaming slice→J
open List renaming length→O
open Option renaming none→I
open World renaming heap→U
open _root_.Array renaming size→E
open Obj renaming cells→Ob
set_option linter.all false
set_option maxRecDepth 100000
set_option maxHeartbeats 0
theorem vD {h:Nat} {w:World} {t:Nat} {M:MK} {W:VV} {al ao ap:Nat} {z:Nat->Prop} {H:Nat} (hS:MS w t M W [] [] al ao ap z H) (c8:DJ M.ms) {B0:Nat} (cn:∀b,z b->B0<=b) (eb:B0<=E (U w)) {pos n m:Int} {name:ByteArray} {ko:OA} {kc:Nat} {mks:VV} (co:cU B0 w (J ko (O mks) kc) mks) (c9:∀i,i<O mks->∃g,ko=some ⟨g,0,I⟩) {kss:List VV} (fM:O kss=O mks) (c':∀(i:Nat) (ks:VV),kss[i]? =some ks->∃ba bb bc bd ai c1,mks[i]? =some (ae 1 ba bb bc bd (J ai (O ks) c1)).toList/\cU B0 w (J ai (O ks) c1) ks/\(∀i,i<O ks->∃g,ai=some ⟨g,0,I⟩)/\∀x∈ks,isNode (λb=>b<B0) True (h+3) w x) (da:O M.ms=O mks) (db:∀(j:Nat) (md:Md) (ks:VV),M.ms[j]? =some md->kss[j]? =some ks->O md.ns+(ks.map (cP 2)).sum<=O ks) (bB:O M.ds=1+(kss.flatten.map (cP 3)).sum) (dc:∀(j:Nat) (d:Dd),1<=j->M.ds[j]? =some d->d.ai=0/\d.cF=0):
 Calls Tryz.prog 23 #[.pointer (aS t),.agg (ae 0 pos n m name (J ko (O mks) kc))] w (uc w t M W al ao ap z H):=by
 have fN:B0<=t:=cn t hS.dG;have fO:=co.len.2;obtain⟨cp,dd⟩:=al1 w (Ob (ae 0 pos n m name (J ko (O mks) kc)) 48);have de:Hid (∀(i:Nat) (ks:VV),kss[i]? =some ks->yq B0 w ko i ks):=λi ks aT=>umod eb co c9 c' aT;have df:Hid ((∀b,z b->B0<=b)/\(∀b,z b->b<E (U w))):=⟨cn,hS.mlt⟩;have b0:Hid ((∀(j:Nat) (md:Md) (ks:VV),M.ms[j]? =some md->kss[j]? =some ks->O md.ns+(ks.map (cP 2)).sum<=O ks)/\O M.ms=O mks/\O M.ds=1+(kss.flatten.map (cP 3)).sum/\∀(j:Nat) (d:Dd),1<=j->M.ds[j]? =some d->d.ai=0/\d.cF=0):=⟨db,da,bB,dc⟩;have cq:US (w.alloc (Ob (ae 0 pos n m name (J ko (O mks) kc)) 48)) t M W al ao ap z H (w.alloc (Ob (ae 0 pos n m name (J ko (O mks) kc)) 48)) M z:=⟨hS.below cp,KX.refl _ _ _,λ_ h=>h,λ_ _ h=>h,Q,λj md bC=>⟨md,bC,Q,Q⟩,Q,⟨Q,Q,Q,Q,Q,Q⟩,λh=>h,c8⟩;obtain⟨Z,bD⟩:∃Z,Z=w.alloc (Ob (ae 0 pos n m name (J ko (O mks) kc)) 48):=⟨_,Q⟩;have fP:E (U Z)=E (U w)+1:=by rw[bD];simp
 have aa:Hid (∀{y:World},KX z (E (U Z)) Z y->KX z (E (U w)) w y/\aq (λb=>b<B0) w y/\y.heap[E (U w)]? =some (Ob (ae 0 pos n m name (J ko (O mks) kc)) 48 (0,0))):=λ{y} cr=>by
  rw[bD] at cr;have dg:KX z (E (U w)) w y:=(KX.al cp).trans (cr.mono (λ_ _ h=>h) sQ);refine⟨dg,λb ar dh=>dg.block b dh (λbE=>oH (df.out.1 b bE)),(cr.block _ sQ (λbE=>?_)).trans dd⟩;have:=df.out.2 _ bE;omega
 rw[<-bD] at cq;clear hS cn co c9 c' cp dd c8 da db bB dc;go_enter Tryz.func23,Tryz.ntmps23
 go_wp2_with fail;rw[<-bD];clear bD;go_loopg [4,5,7,8,9,10,12,23] (O mks) (λaB _ _ _ _ _ _ _ aC wr=>∃(e:Nat) (a1:MK) (aU:Nat->Prop),aB=O mks - e/\aC=vN e/\e<=O mks/\US Z t M W al ao ap z H wr a1 aU/\Hid (a1.ds=M.ds/\∀j,e<=j->a1.ms[j]? =M.ms[j]?))
 case atStart=>exact⟨0,M,z,Q,Q,zL _,cq,Q,λ_ _=>rfl⟩
 case round=>
  clear cq;obtain⟨e,a1,aU,R,rfl,ec,c,b1⟩:=hrel;have ed:Hid (gk=O mks - e):=R;clear R;have di:=λq=>cell_of_row wr _ q _ 48 (0,0) (aa.out c.kx).2.2;have dj:E (U w)<E (U wr):=(gE (aa.out c.kx).2.2).1;by_cases dk:e<O mks
  ·have ee:(e:Int)<(O mks:Int):=oM;obtain⟨ks,aT⟩:∃ks,kss[e]? =some ks:=⟨_,gG oM⟩;obtain⟨g,ba,bb,bc,bd,ai,c1,ab,ef,eg,bF,bG⟩:=de.out e ks aT;obtain rfl:ko=some ⟨g,0,I⟩:=ab;have l:=bF wr (aa.out c.kx).2.1;have aK:g<E (U wr):=oH (aa.out c.kx).1.size;have cs:=qh l;have b2:Hid (kss[e]? =some ks/\∀(j:Nat) (x:List Value),ks[j]? =some x->ql B0 w ai j x):=⟨aT,bG⟩;have aL:=c.below (al1 wr (Ob (ae 1 ba bb bc bd (J ai (O ks) c1)) 48)).1
   have eh:Hid (∃r:Md,M.ms[e]? =some r/\a1.ms[e]? =some r):=by
    obtain⟨r,dl⟩:∃r,M.ms[e]? =some r:=⟨_,gG (oH b0.out.2.1)⟩;exact⟨r,dl,(b1.out.2 e (lR _)).trans dl⟩
   clear bF bG aT c;go_wp2_with fail;clear l di dj cs aK;generalize wr.alloc (Ob (ae 1 ba bb bc bd (J ai (O ks) c1)) 48)=ei at aL⊢;go_loopg [7,8,9,10,12,31] (O ks) (λaB _ _ _ _ _ aC X=>∃(j:Nat) (o:MK) (bk:Nat->Prop),aB=O ks - j/\aC=vN j/\j<=O ks/\US Z t M W al ao ap z H X o bk/\Hid (o.ds=M.ds/\(∀i,e<i->o.ms[i]? =M.ms[i]?)/\∃md r:Md,M.ms[e]? =some r/\o.ms[e]? =some md/\O md.ns<=O r.ns+((ks.take j).map (cP 2)).sum))
   case atStart=>exact⟨0,a1,aU,Q,Q,zL _,aL,b1.out.1,λi b3=>b1.out.2 i oM,by obtain⟨r,A,aD⟩:=eh.out;exact⟨r,r,A,aD,Nat.le_add_right _ _⟩⟩
   case round=>
    clear aL;obtain⟨j,o,bk,R,rfl,bC,c,bH⟩:=hrel;have b4:Hid (gk=O ks - j):=R;clear R;by_cases aV:j<O ks
    ·have ct:(j:Int)<(O ks:Int):=oM;obtain⟨x,Y⟩:∃x,ks[j]? =some x:=⟨_,gG aV⟩;obtain⟨L,au,av,aw,ax,ay,aE,af,az,ab,ej,rfl,ek,bl,-⟩:=b2.out.2 j x Y;obtain rfl:ai=some ⟨L,0,I⟩:=ab;have l:=bl wr (aa.out c.kx).2.1;have aK:L<E (U wr):=oH (aa.out c.kx).1.size;have dm:=qh l
     have bm:Hid (ks.take (j+1)=ks.take j++[(ae au av aw ax ay (J aE af az)).toList]):=by
      show ks.take (j+1)=_;rw[List.take_add_one,Y];rfl
     have cu:Hid (∀bI:Int,o.ds=M.ds/\(∀i,e<i->o.ms[i]? =M.ms[i]?)/\∃md r:Md,M.ms[e]? =some r/\o.ms[e]? =some md/\O md.ns<=O r.ns+((ks.take (j+1)).map (cP 2)).sum):=λ_=>by
      obtain⟨A,aD,md,r,bJ,b5,dn⟩:=bH.out;refine⟨A,aD,md,r,bJ,b5,?_⟩;rw[bm.out,ch];omega
     have aL:=c.below (al1 wr (Ob (ae au av aw ax ay (J aE af az)) 48)).1;clear l bl Y c;by_cases dp:au=2
     ·subst dp;by_cases b6:o.fk=0
      ·have el:(o.fk==0)=true:=sU b6;obtain⟨cv,dq⟩:=ek Q;go_upto_region 9 with(first|(go_at_call 30;refine(bM aL.s.mk').mono ?_;rintro em X ⟨rfl,bf⟩;replace bf:=bf.symm;subst bf)|(go_at_call 40;refine(pL _ _ cv.1 cv.2).mono ?_;rintro en B ⟨eo,fQ,cw,rfl,cx,⟨fR,fS⟩,dr,cy⟩))
       have aN:=aL.below cy;have bK:B.heap[E (U wr)]? =some (Ob (ae 2 av aw ax ay (J aE af az)) 48 (0,0)):=(cy.block _ sQ).trans (al1 wr _).2;have fT:=dr dq;obtain⟨b7,ds⟩:∃b7,cw[0]? =some b7:=⟨_,gG oM⟩;obtain⟨b8,dt⟩:∃b8,cw[1]? =some b8:=⟨_,gG oM⟩;obtain⟨aO,ep,cA,-,cB⟩:=fW cx ds;obtain rfl:eo=some ⟨aO,0,I⟩:=ep;obtain⟨eq,du,-,-,cC⟩:=fW cx dt;obtain rfl:aO=eq:=sU du;clear du ds dt cx dr dq cv;generalize O cw=cD at*;have cE:0<cD:=oM;have cF:(0:Int)<(cD:Int):=oM;have er:(1:Int)<(cD:Int):=oM;go_cut [9,10] (λes et X=>∃(s:Nat) (bI:Int) (f:Nm),es=.pointer (aS s)/\et=vN bI/\Below (E (U B)) B X/\bx X s (dF f)/\E (U B)<=s/\NQ (O o.ds) (O W) f)
       case first=>
        have bN:Hid (∀{y:World},Below (E (U B)) B y->Below (E (U B)) B y/\(Ce y t (jM o))/\y.cell? ⟨aO,0,I⟩=some (.string b7)/\y.cell? ⟨aO,1,I⟩=some (.string b8)):=λ{y} ar=>⟨ar,(aN.s.mk'.below ar).cell,(World.cell?_of_block (w:=B) (a:=⟨aO,0,I⟩) (ar.block aO cA)).trans cB,(World.cell?_of_block (w:=B) (a:=⟨aO,1,I⟩) (ar.block aO cA)).trans cC⟩;clear dm aK cB cC
        go_region_held3 (λy=>Below (E (U B)) B y/\(Ce y t (jM o))/\y.cell? ⟨aO,0,I⟩=some (.string b7)/\y.cell? ⟨aO,1,I⟩=some (.string b8))
         (first|assumption|exact bN.out ((Below.refl _ _).drew)|exact bN.out ((al1 _ _).1.drew)|exact bN.out a2|exact bN.out (a2.alloc a2.size _)|exact bN.out (Below.cM a2 sQ _ _ _ _))
         (first
          |(go_at_call 41;have cG:=(‹Below (E (U B)) B _/\_›).1;refine(pI (D:=O o.ds) (T:=O W) aN.s.pi.bj.1 (aN.s.pi.cE.below cG) aN.s.pi.q _ _ _ _ _ _ _ _ _).mono ?_;rintro ab dv ⟨dw,dx,rfl,dy,dz⟩;have a2:=cG.trans (dz.mono cG.size);have eu:=a2.size;first|(have a3:bx dv (E (U B)) (dF gJ):=(dz.block (E (U B)) sQ).trans (al1 B _).2;have fU:=a3.cell;have fV:=a3.fz;have fX:=a3.lt)|skip))
        all_goals
         go_wp2_with fail;go_meet
         first
          |exact⟨E (U B),dx,dw,Q,Q,Below.cM a2 sQ _ _ _ _,bx.bQ a3 _ _ _ _,lR _,dy⟩
          |exact⟨E (U dv),dx,dw,Q,Q,a2.alloc a2.size _,(al1 _ _).2,eu,dy⟩
       case rest=>
        clear dm aK cB cC cF er cE cA;obtain⟨s,bI,f,rfl,rfl,cH,cI,bB,dA⟩:=hcut;have dB:=(gE cI).1;have a4:=aN.fresh cH bB dB;have dD:=(gE bK).1;have bO:wc.heap[E (U wr)]? =some (Ob (ae 2 av aw ax ay (J aE af az)) 48 (0,0)):=(cH.block _ dD).trans bK;obtain⟨a5,dE⟩:∃a5,a5=E (U wr):=⟨_,Q⟩;rw[<-dE] at bO⊢
        have cJ:Hid ((∀m∈o.ms,∀b,(Value.slice m.ao (O m.ns) m.cp).ownBlock=some b->b≠s)/\E (U Z)<=s):=⟨λm bE b ar ab=>by
         have A:=((aN.s.pi.cE.names m bE).1.lt b ar).2;omega,by have A:=aN.kx.size;omega⟩
        have ev:Hid (NQ (O o.ds) (O W) f):=dA;obtain⟨bn,ew⟩:∃bn,bn=wc:=⟨_,Q⟩;subst ew;clear dE cH bB dB dD aN cy aL bK dA;have cK:=λq=>cell_of_row bn _ q _ 48 (0,0) bO;have b9:a5<E (U bn):=(gE bO).1;by_cases dG:bI=0
        ·subst dG
         obtain⟨md,bP,ex⟩:∃md:Md,o.ms[e]? =some md/\O md.ns<=20000/\Hid (∃r:Md,M.ms[e]? =some r/\O md.ns+1<=O r.ns+((ks.take (j+1)).map (cP 2)).sum):=by
          obtain⟨A,aD,md,r,bJ,b5,dn⟩:=bH.out;have fY:=b0.out.1 e r ks bJ b2.out.1;have ey:=bL (ks.map (cP 2)) j;rw[<-List.map_take] at ey;refine⟨md,b5,oM,r,bJ,?_⟩;rw[bm.out,ch];show _<=O r.ns+(((ks.take j).map (cP 2)).sum+1);omega
         obtain⟨ez,eB⟩:=ex;obtain⟨u,fZ,aF,eC,-,dI⟩:=aP a4.s.pi.cE.row sQ (λx Y=>by obtain⟨cL,_,rfl⟩:=List.mem_map.1 Y;rfl) (i:=e) (x:=md.c) (by rw[List.getElem?_map,bP];rfl);have dJ:o.mo=some ⟨u,0,I⟩:=by simp at aF;exact aF.1
         have eD:bn.cell? ⟨t,0,I⟩=some (J (aS u) (O o.ms) o.mc):=by
          rw[a4.s.mk'.cell 0];show some (Value.slice o.mo _ _)=_;rw[dJ]
         have dK:=a4.s.mk'.lt;have b':bn.cell? ⟨u,e*3+1,I⟩=some (J md.ao (O md.ns) md.cp):=dI 1 dC;have f0:e<O o.ms:=(gS bP).1;have f1:(e:Int)<(O o.ms:Int):=oM;have f2:O o.ms<=20000:=a4.s.pi.cE.bj;obtain⟨a6,bh,C,eE⟩:∃(a6:OA) (bh C:Nat),a6=md.ao/\bh=md.cp/\C=O md.ns:=⟨_,_,_,Q,Q,Q⟩;obtain⟨cM,cN,ca⟩:=eE;rw[<-cM,<-cN,<-ca] at b';have bo:Hid (a6=md.ao/\bh=md.cp/\C=O md.ns):=⟨cM,cN,ca⟩;have f3:C<=20000:=by rw[ca];exact ez
         clear aF dI cM cN ca;go_wp2_with fail;clear cK b9 eD dK b' eC;go_loopg [12,78] C (λaB _ aC X=>∃(i:Nat) (k:MK),aB=C - i/\aC=vN i/\i<=C/\US Z t M W al ao ap z H X k (λb=>bk b\/b=s)/\X.heap[a5]? =some (Ob (ae 2 av aw ax ay (J aE af az)) 48 (0,0))/\bx X s (dF f)/\Hid (k.ms=o.ms/\k.mo=o.mo/\k.mc=o.mc/\k.ds=o.ds))
         case atStart=>exact⟨0,o,Q,Q,zL _,a4,bO,cI,Q,Q,Q,Q⟩
         case round=>
          clear a4 bO cI;obtain⟨i,k,R,rfl,b3,F,cb,bi,aW⟩:=hrel;have dL:Hid (gk=C - i):=R;clear R;have cK:=λq=>cell_of_row wr _ q _ 48 (0,0) cb;have b9:a5<E (U wr):=(gE cb).1;have eF:a5<E (U wr)+1:=oM;have eG:=bi.cell;have dM:=bi.lt;have eH:s<E (U wr)+1:=oM;by_cases dN:i<C
          ·have eI:(i:Int)<(C:Int):=oM;obtain⟨cc,dO⟩:∃cc,md.ns[i]? =some cc:=⟨_,gG (oH bo.out.2.2)⟩;obtain⟨bQ,f4,aF,f5,-,bR⟩:=aP (F.s.pi.cE.names md (by rw[aW.out.1];exact mG bP)).1 sQ (λx Y=>by obtain⟨cL,_,rfl⟩:=List.mem_map.1 Y;rfl) (i:=i) (x:=cc.c) (by rw[List.getElem?_map,dO];rfl);obtain rfl:a6=some ⟨bQ,0,I⟩:=by rw[bo.out.1];simp at aF;exact aF.1
           obtain⟨cO,dP,dQ,dR⟩:=cc;have f6:wr.cell? ⟨bQ,i*4,I⟩=some (.string cO):=bR 0 dC;have f7:wr.cell? ⟨bQ,i*4+1,I⟩=some (vN dP):=bR 1 dC;have f8:wr.cell? ⟨bQ,i*4+2,I⟩=some (vN dQ):=bR 2 dC;have eJ:wr.cell? ⟨bQ,i*4+3,I⟩=some (.bool dR):=bR 3 dC;obtain⟨cd,-⟩:=al1 wr (Ob #[.string cO,vN dP,vN dQ,.bool dR] 104);have ac:=F.below cd;have a7:=(cd.block a5 b9).trans cb;have a8:bx _ s (dF f):=(cd.block s dM).trans bi;clear bR aF dO cd
           cases f9:(cO.toList==f.name.toList)
           ·go_wp2_with fail;go_roundg (C - (i+1))
            case measure=>rw[dL.out];omega
            case rel=>exact⟨i+1,k,Q,by go_num,dN,ac,a7,a8,aW⟩
           ·go_wp2_with (go_at_call 39;refine(bU ac.s.mk' _ _).mono ?_;rintro en B ⟨⟨f',ga,rfl,eK,cQ,eL⟩,-⟩;have aN:=ac.bu cQ eK eL;have bK:=(cQ.block a5 (gE a7).1 (aJ a7 ac.s.mk' dC)).trans a7;have eM:bx B s (dF f):=(cQ.block s (gE a8).1 (aJ a8 ac.s.mk' dC)).trans a8)
            go_roundg (C - (i+1))
            case measure=>rw[dL.out];omega
            case rel=>exact⟨i+1,_,Q,by go_num,dN,aN,bK,eM,aW⟩
          ·have eI:¬(i:Int)<(C:Int):=oM;have ce:k.ms[e]? =some md:=by rw[aW.out.1];exact bP
           have cf:k.mo=some ⟨u,0,I⟩:=by rw[aW.out.2.1];exact dJ
           have eN:=bi.fz;have N:=F.yP bi (.inr Q) cJ.out.2 (by rw[aW.out.1];exact cJ.out.1) 3 (.bool false);have ag:bx (wr.setCell ⟨s,3,I⟩ (.bool false)) s (dF (⟨f.name,f.sort,f.n,false⟩:Nm)):=heap_setCell_same wr s 3 _ 104 (.bool false) bi;obtain⟨aA,cR⟩:∃aA,aA=wr.setCell ⟨s,3,I⟩ (.bool false):=⟨_,Q⟩;rw[<-cR] at N ag
           have eO:Hid (NQ (O k.ds) (O W) (⟨f.name,f.sort,f.n,false⟩:Nm)):=by
            show NQ _ _ _;rw[aW.out.2.2.2];exact ev.out
           have dS:=(gE ag).1;obtain⟨eP,gb,cg,gc,-,dT⟩:=aP N.s.pi.cE.row sQ (λx Y=>by obtain⟨cL,_,rfl⟩:=List.mem_map.1 Y;rfl) (i:=e) (x:=md.c) (by rw[List.getElem?_map,ce];rfl);obtain rfl:u=eP:=by rw[cf] at cg;simp at cg;exact cg.1
           have b':aA.cell? ⟨u,e*3+1,I⟩=some (J a6 C bh):=by
            rw[bo.out.1,bo.out.2.1,bo.out.2.2];exact dT 1 dC
           have gd:u<E (U aA)+1:=oM;have ge:(e:Int)<(O k.ms:Int):=oH (gS ce).1;have gf:O k.ms<=20000:=N.s.pi.cE.bj;obtain⟨dU,dV⟩:=aY N.s.pi.cE.row (b:=u) (by rw[cf];rfl);have cS:Hid (∀{G:World},cz G t k->bx G s (dF (⟨f.name,f.sort,f.n,false⟩:Nm))->G.cell? ⟨t,0,I⟩=some (J (aS u) (O k.ms) k.mc)/\(∀q,G.cell? ⟨s,q,I⟩=#[.string f.name,vN f.sort,vN f.n,.bool false][q]?)):=λ{G} A aD=>⟨by rw[A.cell 0];show some (Value.slice k.mo _ _)=_;rw[cf],aD.cell⟩;have KB:Hid (∀{G:World},Below (E (U aA)) aA G->G.cell? ⟨t,0,I⟩=some (J (aS u) (O k.ms) k.mc)/\(∀q,G.cell? ⟨s,q,I⟩=#[.string f.name,vN f.sort,vN f.n,.bool false][q]?)):=λ{G} ar=>cS.out (N.s.mk'.below ar) ((ar.block _ dS).trans ag)
           have eQ:Hid (∀cT:TypeId,∃bS aX,(Builtin.append_ #[100,100] cT #[J a6 C bh,J (aS (E (U aA))) 1 1]).run Tryz.prog ((aA.alloc (Ob #[.string f.name,vN f.sort,vN f.n,.bool false] 104)).drew)=.ok bS aX/\∃(bp:OA) (bq:Nat) (bT:Nat->Prop) (br:MK),bS=J bp (C+1) bq/\(λG:World=>G.cell? ⟨t,0,I⟩=some (J (aS u) (O k.ms) k.mc)/\(∀q,G.cell? ⟨s,q,I⟩=#[.string f.name,vN f.sort,vN f.n,.bool false][q]?)) aX/\(λG:World=>G.cell? ⟨t,0,I⟩=some (J (aS u) (O k.ms) k.mc)/\(∀q,G.cell? ⟨s,q,I⟩=#[.string f.name,vN f.sort,vN f.n,.bool false][q]?)) (aX.setCell ⟨u,e*3+1,I⟩ (J bp (C+1) bq))/\(∃eR,aX.heap[u]? =some (Ob eR 102 (0,0)))/\aX.cell? ⟨u,e*3+1,I⟩=some (J a6 C bh)/\US Z t M W al ao ap z H (aX.setCell ⟨u,e*3+1,I⟩ (J bp (C+1) bq)) br bT/\Hid (br.ds=M.ds/\(∀i,e<i->br.ms[i]? =M.ms[i]?)/\∃dW r:Md,M.ms[e]? =some r/\br.ms[e]? =some dW/\O dW.ns<=O r.ns+((ks.take (j+1)).map (cP 2)).sum)):=λcT=>by
            obtain⟨eS,eT,cV⟩:=bo.out;have eU:=(Below.refl (E (U aA)) aA).drew;have eV:=N.below eU;obtain⟨bS,aX,dX,bp,bq,bT,dY,cW,aQ,eW,ci,eX⟩:=eV.name ce cf eO.out oM cT Q;rw[<-eS,<-eT,<-cV] at dX;rw[<-cV] at dY;rw[<-cV] at ci;obtain⟨dZ,cX⟩:=aQ;have a8:bx aX s (dF (⟨f.name,f.sort,f.n,false⟩:Nm)):=(eX s dS (λab=>cJ.out.1 md (mG bP) s ab Q)).trans ag;refine⟨bS,aX,dX,bp,bq,bT,_,dY,cS.out cW a8,cS.out ((Below.heap_setCell _ ⟨u,_,I⟩ _ _ (aJ cW cX dC)).trans cW) ((Below.heap_setCell _ ⟨u,_,I⟩ _ _ (aJ a8 cX dC)).trans a8),⟨dZ,cX⟩,(World.cell?_of_block (w:=aA) (a:=⟨u,e*3+1,I⟩) (eW u dU 102 (0,0) dV dC)).trans b',ci,?_⟩;obtain⟨r,A,aD⟩:=eB.out;obtain⟨eY,L,-⟩:=bH.out;refine⟨by show k.ds=_;rw[aW.out.2.2.2];exact eY,λi b3=>?_,_,r,A,List.getElem?_set_self (gS ce).1,?_⟩
            ·show(k.ms.set e _)[i]? =_;rw[List.getElem?_set_ne oM,aW.out.1];exact L i b3
            ·show(md.ns++[_]).length<=_;rw[List.length_append];exact aD
           clear cg dT dU dV;clear N F cb;go_upto_region 19 with fail
           rw[<-cR];clear cR cK b9 eF eG eN dM eH bi;refine wp_region_noPanic ?_;refine wp_region_held_drew (S:=(λG=>G.cell? ⟨t,0,I⟩=some (J (aS u) (O k.ms) k.mc)/\(∀q,G.cell? ⟨s,q,I⟩=#[.string f.name,vN f.sort,vN f.n,.bool false][q]?))) kQ ?_ (λhHeld=>?_)
           ·(try dsimp only)
            (first|assumption|exact KB.out ((Below.refl _ _).drew)|exact KB.out ((al1 _ _).1.drew)|exact KS10|exact KS11)
           refine aM 0 ?_;refine aM 1 ?_;refine aM 2 ?_;refine aM 3 ?_;refine aM 4 ?_;refine aM 5 ?_;refine aM 6 ?_;refine aM 7 ?_;refine aM 8 ?_;refine aM 9 ?_;refine aM 10 ?_;refine aM 11 ?_;refine aM 12 ?_;refine aM 13 ?_;refine aM 15 ?_;apply lh
           case h=>
            intro TL;refine pM 14 16 (λaZ hK=>?_) (λaZ hK=>?_)
            ·go_simp;refine dH hK ?_;clear hK aZ;intro eZ;refine eA 16 (λaZ hK=>?_);go_simp;refine dH hK ?_;exact TL trivial
            ·go_simp;refine dH hK ?_;clear hK aZ;intro eZ;refine eA 14 (λaZ hK=>?_);go_simp;refine dH hK ?_;exact TL trivial
           case p=>
            clear hHeld;intro hHeld;refine eA 17 (λaZ hK=>?_)
            (refine bg 100 (v:=J a6 C bh) (xv:=J (aS (E (U aA))) 1 1) rQ rQ rQ rQ (eQ.out _) ?_;rintro bS d0 ⟨bp,bq,bT,br,rfl,KS10,KS11,aQ,gg,ci,e0⟩;obtain⟨dZ,aQ⟩:=aQ;have gh:=λq=>frozen_of_row d0 u q _ 102 aQ;have gi:u<E (U d0):=(gE aQ).1;clear aQ)
            refine dH hK ?_;clear hK aZ hHeld;intro hHeld;refine aM 18 ?_;refine aM 19 ?_;refine eA 20 (λaZ hK=>?_);go_simp;refine dH hK ?_;clear hK aZ hHeld;intro hHeld;refine wpAnyH_done kQ ?_ _;refine NoPanic.normal ?_;go_wp2_with fail;go_roundg (O ks - (j+1))
            case measure=>rw[b4.out];omega
            case rel=>exact⟨j+1,br,bT,Q,by go_num,aV,ci,e0⟩
        ·have gj:(bI==0)=false:=sU dG;go_wp2_with (go_at_call 39;refine(bU a4.s.mk' _ _).mono ?_;rintro gl gm ⟨⟨e1,e2,rfl,e3,e4,e5⟩,-⟩)
         go_roundg (O ks - (j+1))
         case measure=>rw[b4.out];omega
         case rel=>exact⟨j+1,o.bu e1 e2,_,Q,by go_num,aV,a4.bu e4 e3 e5,cu.out 0⟩
      ·have el:(o.fk==0)=false:=sU b6;go_wp2_with (go_at_call 30;refine(bM aL.s.mk').mono ?_;rintro em X ⟨rfl,bf⟩;replace bf:=bf.symm;subst bf)
       go_roundg (O ks - (j+1))
       case measure=>rw[b4.out];omega
       case rel=>exact⟨j+1,o,bk,Q,by go_num,aV,aL,cu.out 0⟩
     ·have e6:(au==2)=false:=sU dp;go_wp2_with fail;go_roundg (O ks - (j+1))
      case measure=>rw[b4.out];omega
      case rel=>exact⟨j+1,o,bk,Q,by go_num,aV,aL,cu.out 0⟩
    ·have ct:¬(j:Int)<(O ks:Int):=oM;go_wp2_with fail;go_roundg (O mks - (e+1))
     case measure=>rw[ed.out];omega
     case rel=>exact⟨e+1,o,bk,Q,by go_num,dk,c,bH.out.1,λi b3=>bH.out.2.1 i oM⟩
  ·have ee:¬(e:Int)<(O mks:Int):=oM;have e7:Hid (a1.ds=M.ds):=b1.out.1;clear dk;go_wp2_with fail;clear di dj ec;go_loopg [13,15,17,19,118] (O mks) (λaB cY _ _ _ aC X=>∃(K a0:Nat) (bV:MK),aB=O mks - K/\aC=vN K/\cY=vN (a0:Int)/\K<=O mks/\Hid (a0=1+((kss.take K).flatten.map (cP 3)).sum)/\US Z t M W al ao ap z H X bV aU/\Hid (∀(j:Nat) (d:Dd),a0<=j->bV.ds[j]? =some d->d.ai=0/\d.cF=0))
   case atStart=>exact⟨0,1,a1,Q,Q,Q,zL _,(show 1=_ by simp),c,λj d bC a9=>b0.out.2.2.2 j d bC (by rw[<-e7.out];exact a9)⟩
   case round=>
    clear c;obtain⟨K,a0,bV,R,rfl,rfl,gn,d1,ah,e8⟩:=hrel;have e9:Hid (gk=O mks - K):=R;clear R;by_cases e':K<O mks
    ·have fa:(K:Int)<(O mks:Int):=oM;obtain⟨ks,aT⟩:∃ks,kss[K]? =some ks:=⟨_,gG oM⟩;obtain⟨g,ba,bb,bc,bd,ai,c1,ab,ef,eg,bF,bG⟩:=de.out K ks aT;obtain rfl:ko=some ⟨g,0,I⟩:=ab;have l:=bF wr (aa.out ah.kx).2.1;have aK:g<E (U wr):=oH (aa.out ah.kx).1.size;have cs:=qh l
     have d2:Hid ((kss.take (K+1)).flatten=(kss.take K).flatten++ks):=by
      show _=_;rw[List.take_add_one,aT,List.flatten_append];simp
     have b2:Hid (∀(j:Nat) (x:List Value),ks[j]? =some x->ql B0 w ai j x):=bG
     have fb:Hid (∀j,((kss.take K).flatten.map (cP 3)).sum+((ks.take j).map (cP 3)).sum<=(kss.flatten.map (cP 3)).sum):=λj=>by
      have A:kss.flatten=(kss.take (K+1)).flatten++(kss.drop (K+1)).flatten:=by rw[<-List.flatten_append,List.take_append_drop]
      have aD:=bL (ks.map (cP 3)) j;rw[<-List.map_take] at aD;rw[A,d2.out,List.map_append,List.map_append,List.sum_append,List.sum_append];omega
     have F:=ah.below (al1 wr (Ob (ae 1 ba bb bc bd (J ai (O ks) c1)) 48)).1;clear bF bG aT ah;go_wp2_with fail;clear l cs aK;generalize wr.alloc (Ob (ae 1 ba bb bc bd (J ai (O ks) c1)) 48)=ei at F⊢;go_loopg [13,17,19,125] (O ks) (λaB cY _ _ aC X=>∃(j p:Nat) (k:MK),aB=O ks - j/\aC=vN j/\cY=vN (p:Int)/\j<=O ks/\Hid (p=a0+((ks.take j).map (cP 3)).sum)/\US Z t M W al ao ap z H X k aU/\Hid (∀(n:Nat) (d:Dd),p<=n->k.ds[n]? =some d->d.ai=0/\d.cF=0))
     case atStart=>exact⟨0,a0,bV,Q,Q,Q,zL _,(show a0=_ by simp),F,e8⟩
     case round=>
      clear F;obtain⟨j,p,k,R,rfl,rfl,bC,cj,F,ck⟩:=hrel;have d3:Hid (gk=O ks - j):=R;clear R;by_cases aV:j<O ks
      ·have ct:(j:Int)<(O ks:Int):=oM;obtain⟨x,Y⟩:∃x,ks[j]? =some x:=⟨_,gG aV⟩;obtain⟨L,au,av,aw,ax,ay,aE,af,az,ab,ej,rfl,-,bl,cZ⟩:=b2.out j x Y;obtain rfl:ai=some ⟨L,0,I⟩:=ab;have l:=bl wr (aa.out F.kx).2.1;have aK:L<E (U wr):=oH (aa.out F.kx).1.size;have fc:wr.cell? ⟨L,j*11,I⟩=some (vN au):=l 0 dC;have fd:wr.cell? ⟨L,j*11+1,I⟩=some (vN av):=l 1 dC;have fe:wr.cell? ⟨L,j*11+2,I⟩=some (vN aw):=l 2 dC;have ff:wr.cell? ⟨L,j*11+3,I⟩=some (vN ax):=l 3 dC;have fg:wr.cell? ⟨L,j*11+4,I⟩=some (.string ay):=l 4 dC;have fh:wr.cell? ⟨L,j*11+5,I⟩=some (J aE af az):=l 5 dC;have fi:wr.cell? ⟨L,j*11+6,I⟩=some (vN 0):=l 6 dC;have fj:wr.cell? ⟨L,j*11+7,I⟩=some (vN 0):=l 7 dC;have fk:wr.cell? ⟨L,j*11+8,I⟩=some aH:=l 8 dC;have fl:wr.cell? ⟨L,j*11+9,I⟩=some aH:=l 9 dC;have fm:wr.cell? ⟨L,j*11+10,I⟩=some aH:=l 10 dC
       have bm:Hid (ks.take (j+1)=ks.take j++[(ae au av aw ax ay (J aE af az)).toList]):=by
        show ks.take (j+1)=_;rw[List.take_add_one,Y];rfl
       have N:=F.below (al1 wr (Ob (ae au av aw ax ay (J aE af az)) 48)).1;by_cases c0:au=3
       ·subst c0;obtain⟨bW,gp,gq,eJ,gr,c2,aG,fn,ab,gs,fo,gt,d4,d5⟩:=cZ Q;obtain rfl:aE=some ⟨bW,0,I⟩:=ab;have fp:wr.cell? ⟨bW,5,I⟩=some (J c2 aG fn):=d4 wr (aa.out F.kx).2.1 5 dC;have fq:bW<E (U wr):=oH (aa.out F.kx).1.size;have cE:0<af:=fo;have cF:(0:Int)<(af:Int):=oM;have d6:cP 3 (ae 3 av aw ax ay (J (aS bW) af az)).toList=1:=rfl
        have fr:p<O k.ds:=by
         have A:=fb.out (j+1);rw[bm.out,ch,d6] at A;have aD:=d1.out;have bJ:=cj.out;have b5:=b0.out.2.2.1;have dn:=F.ds;omega
        have c3:Hid (p+1=a0+((ks.take (j+1)).map (cP 3)).sum):=by
         show p+1=_;rw[bm.out,ch,d6,cj.out];omega
        have fs:Hid (∀c,c<aG->∃(V:Nat) (bj bs bt bu:Int) (bv:ByteArray) (bw:OA) (bz bA:Nat),c2=some ⟨V,0,I⟩/\V<B0/\∀y:World,aq (λb=>b<B0) w y->∀q,q<11->y.cell? ⟨V,c*11+q,I⟩=(ae bj bs bt bu bv (J bw bz bA)).toList[q]?):=d5
        have ft:Hid (∃P:Dd,k.ds[p]? =some P/\∃aj ak:Nat,P.ai=aj/\P.cF=ak/\aj+ak=0):=by
         obtain⟨P,ag⟩:∃P,k.ds[p]? =some P:=⟨_,gG fr⟩;have A:=ck.out p P (lR _) ag;exact⟨P,ag,0,0,A.1,A.2,Q⟩
        have gu:p<=200000:=oH F.s.pi.bj.2.1;clear d4 d5 cZ bl Y F;go_wp2_with fail;clear l fc fd fe ff fg fh fi fj fk fl fm aK fp fq cE cF;generalize wr.alloc (Ob (ae 3 av aw ax ay (J (aS bW) af az)) 48)=gv at N⊢;go_loopg [19,138] aG (λaB _ aC X=>∃(c:Nat) (ad:MK),aB=aG - c/\aC=vN c/\c<=aG/\US Z t M W al ao ap z H X ad aU/\Hid (∃P:Dd,ad.ds[p]? =some P/\∃aj ak:Nat,P.ai=aj/\P.cF=ak/\aj+ak=c)/\Hid (∀(n:Nat) (d:Dd),p<n->ad.ds[n]? =some d->d.ai=0/\d.cF=0))
        case atStart=>exact⟨0,k,Q,Q,zL _,N,ft,λn d a3 a9=>ck.out n d oM a9⟩
        case round=>
         clear N;obtain⟨c,ad,R,rfl,gw,N,fu,d7⟩:=hrel;have d8:Hid (gk=aG - c):=R;clear R;by_cases c4:c<aG
         ·have fv:(c:Int)<(aG:Int):=oM;obtain⟨V,bj,bs,bt,bu,bv,bw,bz,bA,ab,gx,aQ⟩:=fs.out c c4;obtain rfl:c2=some ⟨V,0,I⟩:=ab;have l:=aQ wr (aa.out N.kx).2.1;have aK:V<E (U wr):=oH (aa.out N.kx).1.size;have fw:wr.cell? ⟨V,c*11,I⟩=some (vN bj):=l 0 dC;have fx:wr.cell? ⟨V,c*11+1,I⟩=some (vN bs):=l 1 dC;have fy:wr.cell? ⟨V,c*11+2,I⟩=some (vN bt):=l 2 dC;have fz:wr.cell? ⟨V,c*11+3,I⟩=some (vN bu):=l 3 dC;have fA:wr.cell? ⟨V,c*11+4,I⟩=some (.string bv):=l 4 dC;have fB:wr.cell? ⟨V,c*11+5,I⟩=some (J bw bz bA):=l 5 dC;have fC:wr.cell? ⟨V,c*11+6,I⟩=some (vN 0):=l 6 dC;have fD:wr.cell? ⟨V,c*11+7,I⟩=some (vN 0):=l 7 dC;have fE:wr.cell? ⟨V,c*11+8,I⟩=some aH:=l 8 dC;have fF:wr.cell? ⟨V,c*11+9,I⟩=some aH:=l 9 dC;have fG:wr.cell? ⟨V,c*11+10,I⟩=some aH:=l 10 dC;have ac:=N.below (al1 wr (Ob (ae bj bs bt bu bv (J bw bz bA)) 48)).1;obtain⟨P,ag,aj,ak,c5,c6,fH⟩:=fu.out;obtain⟨a',gy,aF,fI,-,cl⟩:=aP ac.s.pi.cd sQ (λx Y=>by obtain⟨cL,_,rfl⟩:=List.mem_map.1 Y;rfl) (i:=p) (x:=P.c) (by rw[List.getElem?_map,ag];rfl);have bX:ad.df=some ⟨a',0,I⟩:=by simp at aF;exact aF.1
          obtain⟨gz,c7⟩:=aY ac.s.pi.cd (b:=a') (by rw[bX];rfl);obtain⟨aI,cm⟩:∃aI,aI=wr.alloc (Ob (ae bj bs bt bu bv (J bw bz bA)) 48):=⟨_,Q⟩;rw[<-cm] at ac fI cl c7;have a7:aI.heap[E (U wr)]? =some (Ob (ae bj bs bt bu bv (J bw bz bA)) 48 (0,0)):=by rw[cm];exact(al1 wr _).2
          have gA:=λq=>cell_of_row aI _ q _ 48 (0,0) a7;have gB:E (U wr)<E (U aI):=(gE a7).1
          have gC:aI.cell? ⟨t,1,I⟩=some (J (aS a') (O ad.ds) ad.eo):=by
           rw[ac.s.mk'.cell 1];show some (Value.slice ad.df _ _)=_;rw[bX]
          have dK:=ac.s.mk'.lt
          have gD:aI.cell? ⟨a',p*10+6,I⟩=some (vN (aj:Int)):=by
           rw[cl 6 dC,<-c5];rfl
          have gF:aI.cell? ⟨a',p*10+7,I⟩=some (vN (ak:Int)):=by
           rw[cl 7 dC,<-c6];rfl
          have gH:=λq=>frozen_of_row aI a' q _ 69 c7;have gI:(p:Int)<(O ad.ds:Int):=oH (gS ag).1;have gK:=ac.s.pi.bj.2.1;have gL:aj<=6099:=oM;have gM:ak<=6099:=oM;have d9:Hid (US Z t M W al ao ap z H (aI.setCell ⟨a',p*10+6,I⟩ (vN ((aj+1:Nat):Int))) (ad.put p {P with ai:=((aj+1:Nat):Int)}) aU/\US Z t M W al ao ap z H (aI.setCell ⟨a',p*10+7,I⟩ (vN ((ak+1:Nat):Int))) (ad.put p {P with cF:=((ak+1:Nat):Int)}) aU):=⟨ac.Lv ag bX oM,ac.Gn ag bX oM⟩;have d':=(gS ag).1;have fJ:Hid (∃aR:Dd,(ad.ds.set p {P with ai:=((aj+1:Nat):Int)})[p]? =some aR/\∃bY bZ:Nat,aR.ai=bY/\aR.cF=bZ/\bY+bZ=c+1):=⟨_,List.getElem?_set_self d',aj+1,ak,Q,c6,oM⟩;have fK:Hid (∃aR:Dd,(ad.ds.set p {P with cF:=((ak+1:Nat):Int)})[p]? =some aR/\∃bY bZ:Nat,aR.ai=bY/\aR.cF=bZ/\bY+bZ=c+1):=⟨_,List.getElem?_set_self d',aj,ak+1,c5,Q,oM⟩;have ea:Hid (∀aR:Dd,∀(n:Nat) (d:Dd),p<n->(ad.ds.set p aR)[n]? =some d->d.ai=0/\d.cF=0):=λaR n d a3 a9=>d7.out n d a3 (by rw[List.getElem?_set_ne oM] at a9;exact a9);clear a7 l aQ N ac aF cl c7 fH c5 c6 ag bX;go_upto_region 33 with fail
          rw[<-cm];clear cm fw fx fy fz fA fB fC fD fE fF fG aK
          cases gN:(bj==10)
          ·go_wp2_with fail;go_roundg (aG - (c+1))
           case measure=>rw[d8.out];omega
           case rel=>exact⟨c+1,_,Q,by go_num,c4,d9.out.2,fK,ea.out _⟩
          ·go_wp2_with fail;go_roundg (aG - (c+1))
           case measure=>rw[d8.out];omega
           case rel=>exact⟨c+1,_,Q,by go_num,c4,d9.out.1,fJ,ea.out _⟩
         ·have fv:¬(c:Int)<(aG:Int):=oM;go_wp2_with fail;go_roundg (O ks - (j+1))
          case measure=>rw[d3.out];omega
          case rel=>exact⟨j+1,p+1,ad,Q,by go_num,by go_num,aV,c3,N,λn d a3 a9=>d7.out n d oM a9⟩
       ·have e6:(au==3)=false:=sU c0
        have c3:Hid (p=a0+((ks.take (j+1)).map (cP 3)).sum):=by
         show p=_;have b6:cP 3 (ae au av aw ax ay (J aE af az)).toList=0:=(if_neg c0:(if au=3 then 1 else 0)=0);rw[bm.out,ch,b6];exact cj.out
        clear bl Y F cZ;go_wp2_with fail;go_roundg (O ks - (j+1))
        case measure=>rw[d3.out];omega
        case rel=>exact⟨j+1,p,k,Q,by go_num,Q,aV,c3,N,ck⟩
      ·have ct:¬(j:Int)<(O ks:Int):=oM
       have fL:Hid (p=1+((kss.take (K+1)).flatten.map (cP 3)).sum):=by
        have A:=cj.out;rw[List.take_of_length_le oM] at A;show p=_;rw[d2.out,List.map_append,List.sum_append,A,d1.out];omega
       go_wp2_with fail;go_roundg (O mks - (K+1))
       case measure=>rw[e9.out];omega
       case rel=>exact⟨K+1,p,k,Q,by go_num,Q,e',fL,F,ck⟩
    ·have fa:¬(K:Int)<(O mks:Int):=oM;go_wp2_with fail;go_end0;exact⟨bV,aU,Q,⟨ah.s,(aa.out ah.kx).1,ah.m1,λb dh ar=>ah.m2 b oM ar,ah.ml,ah.own,ah.ds,ah.rest,ah.hf,ah.dj⟩⟩
end Go.Proofs.YtdghkacbpebcoaaGreat
