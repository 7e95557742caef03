import Derived.Deep.CutBlock
import Derived.Test.YtcnnibahjmekdaaGreatS47
namespace Go.Proofs.YtcnnibahjmekdaaGreat
open Go.RowKit
open Value renaming slice→J
open List renaming length→O
open Option renaming none→I
open World renaming heap→U
open _root_.Array renaming size→E
open Obj renaming cells→Ob
set_option linter.all false
set_option maxRecDepth 100000
set_option maxHeartbeats 0
theorem vW {h:Nat} {w:World} {t:Nat} {M:MK} {W:VV} {ao ap aq:Nat} {z:Nat->Prop} {H:Nat} (hS:MS w t M W [] [] ao ap aq z H) (c8:DJ M.ms) {B0:Nat} (cn:∀b,z b->B0<=b) (eb:B0<=E (U w)) {pos n m:Int} {name:ByteArray} {ko:OA} {kc:Nat} {mks:VV} (co:cZ B0 w (J ko (O mks) kc) mks) (c9:∀i,i<O mks->∃g,ko=some ⟨g,0,I⟩) {kss:List VV} (fM:O kss=O mks) (c':∀(i:Nat) (ks:VV),kss[i]? =some ks->∃ba bb bc bd ai c1,mks[i]? =some (ae 1 ba bb bc bd (J ai (O ks) c1)).toList/\cZ B0 w (J ai (O ks) c1) ks/\(∀i,i<O ks->∃g,ai=some ⟨g,0,I⟩)/\∀x∈ks,isNode (λb=>b<B0) True (h+3) w x) (da:O M.ms=O mks) (db:∀(j:Nat) (md:Md) (ks:VV),M.ms[j]? =some md->kss[j]? =some ks->O md.ns+(ks.map (cT 2)).sum<=O ks) (bB:O M.ds=1+(kss.flatten.map (cT 3)).sum) (dc:∀(j:Nat) (d:Dd),1<=j->M.ds[j]? =some d->d.ak=0/\d.cL=0):
 Calls Tryz.prog 28 #[.pointer (aS t),.agg (ae 0 pos n m name (J ko (O mks) kc))] w (uq w t M W ao ap aq z H):=by
 have fN:B0<=t:=cn t hS.dT;have fO:=co.len.2;obtain⟨cp,dd⟩:=al1 w (Ob (ae 0 pos n m name (J ko (O mks) kc)) 46);have de:Hid (∀(i:Nat) (ks:VV),kss[i]? =some ks->yO B0 w ko i ks):=λi ks aT=>umod eb co c9 c' aT;have df:Hid ((∀b,z b->B0<=b)/\(∀b,z b->b<E (U w))):=⟨cn,hS.mlt⟩;have b0:Hid ((∀(j:Nat) (md:Md) (ks:VV),M.ms[j]? =some md->kss[j]? =some ks->O md.ns+(ks.map (cT 2)).sum<=O ks)/\O M.ms=O mks/\O M.ds=1+(kss.flatten.map (cT 3)).sum/\∀(j:Nat) (d:Dd),1<=j->M.ds[j]? =some d->d.ak=0/\d.cL=0):=⟨db,da,bB,dc⟩;have cq:US (w.alloc (Ob (ae 0 pos n m name (J ko (O mks) kc)) 46)) t M W ao ap aq z H (w.alloc (Ob (ae 0 pos n m name (J ko (O mks) kc)) 46)) M z:=⟨hS.below cp,KX.refl _ _ _,λ_ h=>h,λ_ _ h=>h,Q,λj md bC=>⟨md,bC,Q,Q⟩,Q,⟨Q,Q,Q,Q,Q,Q⟩,λh=>h,c8⟩;obtain⟨Z,bD⟩:∃Z,Z=w.alloc (Ob (ae 0 pos n m name (J ko (O mks) kc)) 46):=⟨_,Q⟩;have fP:E (U Z)=E (U w)+1:=by rw[bD];simp
 have aa:Hid (∀{y:World},KX z (E (U Z)) Z y->KX z (E (U w)) w y/\al (λb=>b<B0) w y/\y.heap[E (U w)]? =some (Ob (ae 0 pos n m name (J ko (O mks) kc)) 46 (0,0))):=λ{y} cr=>by
  rw[bD] at cr;have dg:KX z (E (U w)) w y:=(KX.aq cp).trans (cr.mono (λ_ _ h=>h) sQ);refine⟨dg,λb ar dh=>dg.block b dh (λbE=>oH (df.out.1 b bE)),(cr.block _ sQ (λbE=>?_)).trans dd⟩;have:=df.out.2 _ bE;omega
 rw[<-bD] at cq;clear hS cn co c9 c' cp dd c8 da db bB dc;go_enter Tryz.func28,Tryz.ntmps28
 go_wp2_with fail;rw[<-bD];clear bD;go_loopg [4,5,7,8,9,10,12,23] (O mks) (λaB _ _ _ _ _ _ _ aC wr=>∃(e:Nat) (a1:MK) (aU:Nat->Prop),aB=O mks - e/\aC=vN e/\e<=O mks/\US Z t M W ao ap aq z H wr a1 aU/\Hid (a1.ds=M.ds/\∀j,e<=j->a1.ms[j]? =M.ms[j]?))
 case atStart=>exact⟨0,M,z,Q,Q,zL _,cq,Q,λ_ _=>rfl⟩
 case round=>
  clear cq;obtain⟨e,a1,aU,R,rfl,ec,c,b1⟩:=hrel;have ed:Hid (gk=O mks - e):=R;clear R;have di:=λq=>cell_of_row wr _ q _ 46 (0,0) (aa.out c.kx).2.2;have dj:E (U w)<E (U wr):=(gE (aa.out c.kx).2.2).1;by_cases dk:e<O mks
  ·have ee:(e:Int)<(O mks:Int):=oM;obtain⟨ks,aT⟩:∃ks,kss[e]? =some ks:=⟨_,gG oM⟩;obtain⟨g,ba,bb,bc,bd,ai,c1,ab,ef,eg,bF,bG⟩:=de.out e ks aT;obtain rfl:ko=some ⟨g,0,I⟩:=ab;have l:=bF wr (aa.out c.kx).2.1;have aM:g<E (U wr):=oH (aa.out c.kx).1.size;have cs:=qt l;have b2:Hid (kss[e]? =some ks/\∀(j:Nat) (x:List Value),ks[j]? =some x->qy B0 w ai j x):=⟨aT,bG⟩;have aN:=c.below (al1 wr (Ob (ae 1 ba bb bc bd (J ai (O ks) c1)) 46)).1
   have eh:Hid (∃r:Md,M.ms[e]? =some r/\a1.ms[e]? =some r):=by
    obtain⟨r,dl⟩:∃r,M.ms[e]? =some r:=⟨_,gG (oH b0.out.2.1)⟩;exact⟨r,dl,(b1.out.2 e (lR _)).trans dl⟩
   clear bF bG aT c;go_wp2_with fail;clear l di dj cs aM;generalize wr.alloc (Ob (ae 1 ba bb bc bd (J ai (O ks) c1)) 46)=ei at aN⊢;go_loopg [7,8,9,10,12,31] (O ks) (λaB _ _ _ _ _ aC X=>∃(j:Nat) (o:MK) (bk:Nat->Prop),aB=O ks - j/\aC=vN j/\j<=O ks/\US Z t M W ao ap aq z H X o bk/\Hid (o.ds=M.ds/\(∀i,e<i->o.ms[i]? =M.ms[i]?)/\∃md r:Md,M.ms[e]? =some r/\o.ms[e]? =some md/\O md.ns<=O r.ns+((ks.take j).map (cT 2)).sum))
   case atStart=>exact⟨0,a1,aU,Q,Q,zL _,aN,b1.out.1,λi b3=>b1.out.2 i oM,by obtain⟨r,A,aD⟩:=eh.out;exact⟨r,r,A,aD,Nat.le_add_right _ _⟩⟩
   case round=>
    clear aN;obtain⟨j,o,bk,R,rfl,bC,c,bH⟩:=hrel;have b4:Hid (gk=O ks - j):=R;clear R;by_cases aV:j<O ks
    ·have ct:(j:Int)<(O ks:Int):=oM;obtain⟨x,Y⟩:∃x,ks[j]? =some x:=⟨_,gG aV⟩;obtain⟨L,au,av,aw,ax,ay,aE,af,az,ab,ej,rfl,ek,bl,-⟩:=b2.out.2 j x Y;obtain rfl:ai=some ⟨L,0,I⟩:=ab;have l:=bl wr (aa.out c.kx).2.1;have aM:L<E (U wr):=oH (aa.out c.kx).1.size;have dm:=qt l
     have bm:Hid (ks.take (j+1)=ks.take j++[(ae au av aw ax ay (J aE af az)).toList]):=by
      show ks.take (j+1)=_;rw[List.take_add_one,Y];rfl
     have cu:Hid (∀bI:Int,o.ds=M.ds/\(∀i,e<i->o.ms[i]? =M.ms[i]?)/\∃md r:Md,M.ms[e]? =some r/\o.ms[e]? =some md/\O md.ns<=O r.ns+((ks.take (j+1)).map (cT 2)).sum):=λ_=>by
      obtain⟨A,aD,md,r,bJ,b5,dn⟩:=bH.out;refine⟨A,aD,md,r,bJ,b5,?_⟩;rw[bm.out,ck];omega
     have aN:=c.below (al1 wr (Ob (ae au av aw ax ay (J aE af az)) 46)).1;clear l bl Y c;by_cases dp:au=2
     ·subst dp;by_cases b6:o.fk=0
      ·have el:(o.fk==0)=true:=sU b6;obtain⟨cv,dq⟩:=ek Q;go_upto_region 9 with(first|(go_at_call 35;refine(bN aN.s.mk').mono ?_;rintro em X ⟨rfl,bg⟩;replace bg:=bg.symm;subst bg)|(go_at_call 46;refine(pS _ _ cv.1 cv.2).mono ?_;rintro en B ⟨eo,fQ,cw,rfl,cx,⟨fR,fS⟩,dr,cy⟩))
       have aO:=aN.below cy;have bK:B.heap[E (U wr)]? =some (Ob (ae 2 av aw ax ay (J aE af az)) 46 (0,0)):=(cy.block _ sQ).trans (al1 wr _).2;have fT:=dr dq;obtain⟨b7,ds⟩:∃b7,cw[0]? =some b7:=⟨_,gG oM⟩;obtain⟨b8,dt⟩:∃b8,cw[1]? =some b8:=⟨_,gG oM⟩;obtain⟨aP,ep,cz,-,cA⟩:=fX cx ds;obtain rfl:eo=some ⟨aP,0,I⟩:=ep;obtain⟨eq,du,-,-,cB⟩:=fX cx dt;obtain rfl:aP=eq:=sU du;clear du ds dt cx dr dq cv;generalize O cw=cC at*;have cD:0<cC:=oM;have cE:(0:Int)<(cC:Int):=oM;have er:(1:Int)<(cC:Int):=oM;go_cut [9,10] (λes et X=>∃(s:Nat) (bI:Int) (f:Nm),es=.pointer (aS s)/\et=vN bI/\Below (E (U B)) B X/\bw X s (dR f)/\E (U B)<=s/\NQ (O o.ds) (O W) f)
       case first=>
        have bL:Hid (∀{y:World},Below (E (U B)) B y->Below (E (U B)) B y/\(Ce y t (jO o))/\y.cell? ⟨aP,0,I⟩=some (.string b7)/\y.cell? ⟨aP,1,I⟩=some (.string b8)):=λ{y} ar=>⟨ar,(aO.s.mk'.below ar).cell,(World.cell?_of_block (w:=B) (a:=⟨aP,0,I⟩) (ar.block aP cz)).trans cA,(World.cell?_of_block (w:=B) (a:=⟨aP,1,I⟩) (ar.block aP cz)).trans cB⟩;clear dm aM cA cB
        go_region_held3 (λy=>Below (E (U B)) B y/\(Ce y t (jO o))/\y.cell? ⟨aP,0,I⟩=some (.string b7)/\y.cell? ⟨aP,1,I⟩=some (.string b8))
         (first|assumption|exact bL.out ((Below.refl _ _).drew)|exact bL.out ((al1 _ _).1.drew)|exact bL.out a2|exact bL.out (a2.alloc a2.size _)|exact bL.out (Below.cQ a2 sQ _ _ _ _))
         (first
          |(go_at_call 47;have cG:=(‹Below (E (U B)) B _/\_›).1;refine(pP (D:=O o.ds) (T:=O W) aO.s.pi.bB.1 (aO.s.pi.cK.below cG) aO.s.pi.q _ _ _ _ _ _ _ _ _).mono ?_;rintro ab dv ⟨dw,dx,rfl,dy,dz⟩;have a2:=cG.trans (dz.mono cG.size);have eu:=a2.size;first|(have a3:bw dv (E (U B)) (dR gJ):=(dz.block (E (U B)) sQ).trans (al1 B _).2;have fU:=a3.cell;have fV:=a3.fz;have fW:=a3.lt)|skip))
        all_goals
         go_wp2_with fail;go_meet
         first
          |exact⟨E (U B),dx,dw,Q,Q,Below.cQ a2 sQ _ _ _ _,bw.bQ a3 _ _ _ _,lR _,dy⟩
          |exact⟨E (U dv),dx,dw,Q,Q,a2.alloc a2.size _,(al1 _ _).2,eu,dy⟩
       case rest=>
        clear dm aM cA cB cE er cD cz;obtain⟨s,bI,f,rfl,rfl,cH,cI,bB,dA⟩:=hcut;have dB:=(gE cI).1;have a4:=aO.fresh cH bB dB;have dD:=(gE bK).1;have bO:wc.heap[E (U wr)]? =some (Ob (ae 2 av aw ax ay (J aE af az)) 46 (0,0)):=(cH.block _ dD).trans bK;obtain⟨a5,dE⟩:∃a5,a5=E (U wr):=⟨_,Q⟩;rw[<-dE] at bO⊢
        have cJ:Hid ((∀m∈o.ms,∀b,(Value.slice m.ao (O m.ns) m.cp).ownBlock=some b->b≠s)/\E (U Z)<=s):=⟨λm bE b ar ab=>by
         have A:=((aO.s.pi.cK.names m bE).1.lt b ar).2;omega,by have A:=aO.kx.size;omega⟩
        have ev:Hid (NQ (O o.ds) (O W) f):=dA;obtain⟨bn,ew⟩:∃bn,bn=wc:=⟨_,Q⟩;subst ew;clear dE cH bB dB dD aO cy aN bK dA;have cK:=λq=>cell_of_row bn _ q _ 46 (0,0) bO;have b9:a5<E (U bn):=(gE bO).1;by_cases dF:bI=0
        ·subst dF
         obtain⟨md,bP,ex⟩:∃md:Md,o.ms[e]? =some md/\O md.ns<=20000/\Hid (∃r:Md,M.ms[e]? =some r/\O md.ns+1<=O r.ns+((ks.take (j+1)).map (cT 2)).sum):=by
          obtain⟨A,aD,md,r,bJ,b5,dn⟩:=bH.out;have fY:=b0.out.1 e r ks bJ b2.out.1;have ey:=bM (ks.map (cT 2)) j;rw[<-List.map_take] at ey;refine⟨md,b5,oM,r,bJ,?_⟩;rw[bm.out,ck];show _<=O r.ns+(((ks.take j).map (cT 2)).sum+1);omega
         obtain⟨ez,eA⟩:=ex;obtain⟨u,fZ,aG,eB,-,dG⟩:=aL a4.s.pi.cK.row sQ (λx Y=>by obtain⟨cL,_,rfl⟩:=List.mem_map.1 Y;rfl) (i:=e) (x:=md.c) (by rw[List.getElem?_map,bP];rfl);have dH:o.mo=some ⟨u,0,I⟩:=by simp at aG;exact aG.1
         have eC:bn.cell? ⟨t,0,I⟩=some (J (aS u) (O o.ms) o.mc):=by
          rw[a4.s.mk'.cell 0];show some (Value.slice o.mo _ _)=_;rw[dH]
         have dI:=a4.s.mk'.lt;have b':bn.cell? ⟨u,e*3+1,I⟩=some (J md.ao (O md.ns) md.cp):=dG 1 dC;have f0:e<O o.ms:=(gS bP).1;have f1:(e:Int)<(O o.ms:Int):=oM;have f2:O o.ms<=20000:=a4.s.pi.cK.bB;obtain⟨a6,bh,C,eD⟩:∃(a6:OA) (bh C:Nat),a6=md.ao/\bh=md.cp/\C=O md.ns:=⟨_,_,_,Q,Q,Q⟩;obtain⟨cM,cN,ca⟩:=eD;rw[<-cM,<-cN,<-ca] at b';have bo:Hid (a6=md.ao/\bh=md.cp/\C=O md.ns):=⟨cM,cN,ca⟩;have f3:C<=20000:=by rw[ca];exact ez
         clear aG dG cM cN ca;go_wp2_with fail;clear cK b9 eC dI b' eB;go_loopg [12,78] C (λaB _ aC X=>∃(i:Nat) (k:MK),aB=C - i/\aC=vN i/\i<=C/\US Z t M W ao ap aq z H X k (λb=>bk b\/b=s)/\X.heap[a5]? =some (Ob (ae 2 av aw ax ay (J aE af az)) 46 (0,0))/\bw X s (dR f)/\Hid (k.ms=o.ms/\k.mo=o.mo/\k.mc=o.mc/\k.ds=o.ds))
         case atStart=>exact⟨0,o,Q,Q,zL _,a4,bO,cI,Q,Q,Q,Q⟩
         case round=>
          clear a4 bO cI;obtain⟨i,k,R,rfl,b3,F,cb,bi,aW⟩:=hrel;have dJ:Hid (gk=C - i):=R;clear R;have cK:=λq=>cell_of_row wr _ q _ 46 (0,0) cb;have b9:a5<E (U wr):=(gE cb).1;have eE:a5<E (U wr)+1:=oM;have eF:=bi.cell;have dK:=bi.lt;have eG:s<E (U wr)+1:=oM;by_cases dL:i<C
          ·have eH:(i:Int)<(C:Int):=oM;obtain⟨cc,dM⟩:∃cc,md.ns[i]? =some cc:=⟨_,gG (oH bo.out.2.2)⟩;obtain⟨bQ,f4,aG,f5,-,bR⟩:=aL (F.s.pi.cK.names md (by rw[aW.out.1];exact mG bP)).1 sQ (λx Y=>by obtain⟨cL,_,rfl⟩:=List.mem_map.1 Y;rfl) (i:=i) (x:=cc.c) (by rw[List.getElem?_map,dM];rfl);obtain rfl:a6=some ⟨bQ,0,I⟩:=by rw[bo.out.1];simp at aG;exact aG.1
           obtain⟨cO,dN,dO,dP⟩:=cc;have f6:wr.cell? ⟨bQ,i*4,I⟩=some (.string cO):=bR 0 dC;have f7:wr.cell? ⟨bQ,i*4+1,I⟩=some (vN dN):=bR 1 dC;have f8:wr.cell? ⟨bQ,i*4+2,I⟩=some (vN dO):=bR 2 dC;have eI:wr.cell? ⟨bQ,i*4+3,I⟩=some (.bool dP):=bR 3 dC;obtain⟨cd,-⟩:=al1 wr (Ob #[.string cO,vN dN,vN dO,.bool dP] 117);have ac:=F.below cd;have a7:=(cd.block a5 b9).trans cb;have a8:bw _ s (dR f):=(cd.block s dK).trans bi;clear bR aG dM cd
           cases f9:(cO.toList==f.name.toList)
           ·go_wp2_with fail;go_roundg (C - (i+1))
            case measure=>rw[dJ.out];omega
            case rel=>exact⟨i+1,k,Q,by go_num,dL,ac,a7,a8,aW⟩
           ·go_wp2_with (go_at_call 45;refine(bY ac.s.mk' _ _).mono ?_;rintro en B ⟨⟨f',ga,rfl,eK,cP,eL⟩,-⟩;have aO:=ac.bt cP eK eL;have bK:=(cP.block a5 (gE a7).1 (aI a7 ac.s.mk' dC)).trans a7;have eM:bw B s (dR f):=(cP.block s (gE a8).1 (aI a8 ac.s.mk' dC)).trans a8)
            go_roundg (C - (i+1))
            case measure=>rw[dJ.out];omega
            case rel=>exact⟨i+1,_,Q,by go_num,dL,aO,bK,eM,aW⟩
          ·have eH:¬(i:Int)<(C:Int):=oM;have ce:k.ms[e]? =some md:=by rw[aW.out.1];exact bP
           have cf:k.mo=some ⟨u,0,I⟩:=by rw[aW.out.2.1];exact dH
           have eN:=bi.fz;have N:=F.ze bi (.inr Q) cJ.out.2 (by rw[aW.out.1];exact cJ.out.1) 3 (.bool false);have ag:bw (wr.setCell ⟨s,3,I⟩ (.bool false)) s (dR (⟨f.name,f.sort,f.n,false⟩:Nm)):=heap_setCell_same wr s 3 _ 117 (.bool false) bi;obtain⟨aA,cQ⟩:∃aA,aA=wr.setCell ⟨s,3,I⟩ (.bool false):=⟨_,Q⟩;rw[<-cQ] at N ag
           have eO:Hid (NQ (O k.ds) (O W) (⟨f.name,f.sort,f.n,false⟩:Nm)):=by
            show NQ _ _ _;rw[aW.out.2.2.2];exact ev.out
           have dQ:=(gE ag).1;obtain⟨eP,gb,cg,gc,-,dS⟩:=aL N.s.pi.cK.row sQ (λx Y=>by obtain⟨cL,_,rfl⟩:=List.mem_map.1 Y;rfl) (i:=e) (x:=md.c) (by rw[List.getElem?_map,ce];rfl);obtain rfl:u=eP:=by rw[cf] at cg;simp at cg;exact cg.1
           have b':aA.cell? ⟨u,e*3+1,I⟩=some (J a6 C bh):=by
            rw[bo.out.1,bo.out.2.1,bo.out.2.2];exact dS 1 dC
           have gd:u<E (U aA)+1:=oM;have ge:(e:Int)<(O k.ms:Int):=oH (gS ce).1;have gf:O k.ms<=20000:=N.s.pi.cK.bB;obtain⟨dT,dU⟩:=aX N.s.pi.cK.row (b:=u) (by rw[cf];rfl);have cR:Hid (∀{G:World},cF G t k->bw G s (dR (⟨f.name,f.sort,f.n,false⟩:Nm))->G.cell? ⟨t,0,I⟩=some (J (aS u) (O k.ms) k.mc)/\(∀q,G.cell? ⟨s,q,I⟩=#[.string f.name,vN f.sort,vN f.n,.bool false][q]?)):=λ{G} A aD=>⟨by rw[A.cell 0];show some (Value.slice k.mo _ _)=_;rw[cf],aD.cell⟩;have KB:Hid (∀{G:World},Below (E (U aA)) aA G->G.cell? ⟨t,0,I⟩=some (J (aS u) (O k.ms) k.mc)/\(∀q,G.cell? ⟨s,q,I⟩=#[.string f.name,vN f.sort,vN f.n,.bool false][q]?)):=λ{G} ar=>cR.out (N.s.mk'.below ar) ((ar.block _ dQ).trans ag)
           have eQ:Hid (∀cS:TypeId,∃bS aY,(Builtin.append_ #[113,113] cS #[J a6 C bh,J (aS (E (U aA))) 1 1]).run Tryz.prog ((aA.alloc (Ob #[.string f.name,vN f.sort,vN f.n,.bool false] 117)).drew)=.ok bS aY/\∃(bp:OA) (bq:Nat) (bT:Nat->Prop) (br:MK),bS=J bp (C+1) bq/\(λG:World=>G.cell? ⟨t,0,I⟩=some (J (aS u) (O k.ms) k.mc)/\(∀q,G.cell? ⟨s,q,I⟩=#[.string f.name,vN f.sort,vN f.n,.bool false][q]?)) aY/\(λG:World=>G.cell? ⟨t,0,I⟩=some (J (aS u) (O k.ms) k.mc)/\(∀q,G.cell? ⟨s,q,I⟩=#[.string f.name,vN f.sort,vN f.n,.bool false][q]?)) (aY.setCell ⟨u,e*3+1,I⟩ (J bp (C+1) bq))/\(∃eR,aY.heap[u]? =some (Ob eR 115 (0,0)))/\aY.cell? ⟨u,e*3+1,I⟩=some (J a6 C bh)/\US Z t M W ao ap aq z H (aY.setCell ⟨u,e*3+1,I⟩ (J bp (C+1) bq)) br bT/\Hid (br.ds=M.ds/\(∀i,e<i->br.ms[i]? =M.ms[i]?)/\∃dW r:Md,M.ms[e]? =some r/\br.ms[e]? =some dW/\O dW.ns<=O r.ns+((ks.take (j+1)).map (cT 2)).sum)):=λcS=>by
            obtain⟨eS,eT,cU⟩:=bo.out;have eU:=(Below.refl (E (U aA)) aA).drew;have eV:=N.below eU;obtain⟨bS,aY,dX,bp,bq,bT,dY,cV,aQ,eW,ch,eX⟩:=eV.name ce cf eO.out oM cS Q;rw[<-eS,<-eT,<-cU] at dX;rw[<-cU] at dY;rw[<-cU] at ch;obtain⟨dZ,cW⟩:=aQ;have a8:bw aY s (dR (⟨f.name,f.sort,f.n,false⟩:Nm)):=(eX s dQ (λab=>cJ.out.1 md (mG bP) s ab Q)).trans ag;refine⟨bS,aY,dX,bp,bq,bT,_,dY,cR.out cV a8,cR.out ((Below.heap_setCell _ ⟨u,_,I⟩ _ _ (aI cV cW dC)).trans cV) ((Below.heap_setCell _ ⟨u,_,I⟩ _ _ (aI a8 cW dC)).trans a8),⟨dZ,cW⟩,(World.cell?_of_block (w:=aA) (a:=⟨u,e*3+1,I⟩) (eW u dT 115 (0,0) dU dC)).trans b',ch,?_⟩;obtain⟨r,A,aD⟩:=eA.out;obtain⟨eY,L,-⟩:=bH.out;refine⟨by show k.ds=_;rw[aW.out.2.2.2];exact eY,λi b3=>?_,_,r,A,List.getElem?_set_self (gS ce).1,?_⟩
            ·show(k.ms.set e _)[i]? =_;rw[List.getElem?_set_ne oM,aW.out.1];exact L i b3
            ·show(md.ns++[_]).length<=_;rw[List.length_append];exact aD
           clear cg dS dT dU;clear N F cb;go_upto_region 19 with fail
           rw[<-cQ];clear cQ cK b9 eE eF eN dK eG bi;refine wp_region_noPanic ?_;refine wp_region_held_drew (S:=(λG=>G.cell? ⟨t,0,I⟩=some (J (aS u) (O k.ms) k.mc)/\(∀q,G.cell? ⟨s,q,I⟩=#[.string f.name,vN f.sort,vN f.n,.bool false][q]?))) kQ ?_ (λhHeld=>?_)
           ·(try dsimp only)
            (first|assumption|exact KB.out ((Below.refl _ _).drew)|exact KB.out ((al1 _ _).1.drew)|exact KS10|exact KS11)
           refine aK 0 ?_;refine aK 1 ?_;refine aK 2 ?_;refine aK 3 ?_;refine aK 4 ?_;refine aK 5 ?_;refine aK 6 ?_;refine aK 7 ?_;refine aK 8 ?_;refine aK 9 ?_;refine aK 10 ?_;refine aK 11 ?_;refine aK 12 ?_;refine aK 13 ?_;refine aK 15 ?_;apply ly
           case h=>
            intro TL;refine pU 14 16 (λaZ hK=>?_) (λaZ hK=>?_)
            ·go_simp;refine dV hK ?_;clear hK aZ;intro eZ;refine eJ 16 (λaZ hK=>?_);go_simp;refine dV hK ?_;exact TL trivial
            ·go_simp;refine dV hK ?_;clear hK aZ;intro eZ;refine eJ 14 (λaZ hK=>?_);go_simp;refine dV hK ?_;exact TL trivial
           case p=>
            clear hHeld;intro hHeld;refine eJ 17 (λaZ hK=>?_)
            (refine bf 113 (v:=J a6 C bh) (xv:=J (aS (E (U aA))) 1 1) rQ rQ rQ rQ (eQ.out _) ?_;rintro bS d0 ⟨bp,bq,bT,br,rfl,KS10,KS11,aQ,gg,ch,e0⟩;obtain⟨dZ,aQ⟩:=aQ;have gh:=λq=>frozen_of_row d0 u q _ 115 aQ;have gi:u<E (U d0):=(gE aQ).1;clear aQ)
            refine dV hK ?_;clear hK aZ hHeld;intro hHeld;refine aK 18 ?_;refine aK 19 ?_;refine eJ 20 (λaZ hK=>?_);go_simp;refine dV hK ?_;clear hK aZ hHeld;intro hHeld;refine wpAnyH_done kQ ?_ _;refine NoPanic.normal ?_;go_wp2_with fail;go_roundg (O ks - (j+1))
            case measure=>rw[b4.out];omega
            case rel=>exact⟨j+1,br,bT,Q,by go_num,aV,ch,e0⟩
        ·have gj:(bI==0)=false:=sU dF;go_wp2_with (go_at_call 45;refine(bY a4.s.mk' _ _).mono ?_;rintro gl gm ⟨⟨e1,e2,rfl,e3,e4,e5⟩,-⟩)
         go_roundg (O ks - (j+1))
         case measure=>rw[b4.out];omega
         case rel=>exact⟨j+1,o.bt e1 e2,_,Q,by go_num,aV,a4.bt e4 e3 e5,cu.out 0⟩
      ·have el:(o.fk==0)=false:=sU b6;go_wp2_with (go_at_call 35;refine(bN aN.s.mk').mono ?_;rintro em X ⟨rfl,bg⟩;replace bg:=bg.symm;subst bg)
       go_roundg (O ks - (j+1))
       case measure=>rw[b4.out];omega
       case rel=>exact⟨j+1,o,bk,Q,by go_num,aV,aN,cu.out 0⟩
     ·have e6:(au==2)=false:=sU dp;go_wp2_with fail;go_roundg (O ks - (j+1))
      case measure=>rw[b4.out];omega
      case rel=>exact⟨j+1,o,bk,Q,by go_num,aV,aN,cu.out 0⟩
    ·have ct:¬(j:Int)<(O ks:Int):=oM;go_wp2_with fail;go_roundg (O mks - (e+1))
     case measure=>rw[ed.out];omega
     case rel=>exact⟨e+1,o,bk,Q,by go_num,dk,c,bH.out.1,λi b3=>bH.out.2.1 i oM⟩
  ·have ee:¬(e:Int)<(O mks:Int):=oM;have e7:Hid (a1.ds=M.ds):=b1.out.1;clear dk;go_wp2_with fail;clear di dj ec;go_loopg [13,15,17,19,118] (O mks) (λaB cX _ _ _ aC X=>∃(K a0:Nat) (bU:MK),aB=O mks - K/\aC=vN K/\cX=vN (a0:Int)/\K<=O mks/\Hid (a0=1+((kss.take K).flatten.map (cT 3)).sum)/\US Z t M W ao ap aq z H X bU aU/\Hid (∀(j:Nat) (d:Dd),a0<=j->bU.ds[j]? =some d->d.ak=0/\d.cL=0))
   case atStart=>exact⟨0,1,a1,Q,Q,Q,zL _,(show 1=_ by simp),c,λj d bC a9=>b0.out.2.2.2 j d bC (by rw[<-e7.out];exact a9)⟩
   case round=>
    clear c;obtain⟨K,a0,bU,R,rfl,rfl,gn,d1,ah,e8⟩:=hrel;have e9:Hid (gk=O mks - K):=R;clear R;by_cases e':K<O mks
    ·have fa:(K:Int)<(O mks:Int):=oM;obtain⟨ks,aT⟩:∃ks,kss[K]? =some ks:=⟨_,gG oM⟩;obtain⟨g,ba,bb,bc,bd,ai,c1,ab,ef,eg,bF,bG⟩:=de.out K ks aT;obtain rfl:ko=some ⟨g,0,I⟩:=ab;have l:=bF wr (aa.out ah.kx).2.1;have aM:g<E (U wr):=oH (aa.out ah.kx).1.size;have cs:=qt l
     have d2:Hid ((kss.take (K+1)).flatten=(kss.take K).flatten++ks):=by
      show _=_;rw[List.take_add_one,aT,List.flatten_append];simp
     have b2:Hid (∀(j:Nat) (x:List Value),ks[j]? =some x->qy B0 w ai j x):=bG
     have fb:Hid (∀j,((kss.take K).flatten.map (cT 3)).sum+((ks.take j).map (cT 3)).sum<=(kss.flatten.map (cT 3)).sum):=λj=>by
      have A:kss.flatten=(kss.take (K+1)).flatten++(kss.drop (K+1)).flatten:=by rw[<-List.flatten_append,List.take_append_drop]
      have aD:=bM (ks.map (cT 3)) j;rw[<-List.map_take] at aD;rw[A,d2.out,List.map_append,List.map_append,List.sum_append,List.sum_append];omega
     have F:=ah.below (al1 wr (Ob (ae 1 ba bb bc bd (J ai (O ks) c1)) 46)).1;clear bF bG aT ah;go_wp2_with fail;clear l cs aM;generalize wr.alloc (Ob (ae 1 ba bb bc bd (J ai (O ks) c1)) 46)=ei at F⊢;go_loopg [13,17,19,125] (O ks) (λaB cX _ _ aC X=>∃(j p:Nat) (k:MK),aB=O ks - j/\aC=vN j/\cX=vN (p:Int)/\j<=O ks/\Hid (p=a0+((ks.take j).map (cT 3)).sum)/\US Z t M W ao ap aq z H X k aU/\Hid (∀(n:Nat) (d:Dd),p<=n->k.ds[n]? =some d->d.ak=0/\d.cL=0))
     case atStart=>exact⟨0,a0,bU,Q,Q,Q,zL _,(show a0=_ by simp),F,e8⟩
     case round=>
      clear F;obtain⟨j,p,k,R,rfl,rfl,bC,ci,F,cj⟩:=hrel;have d3:Hid (gk=O ks - j):=R;clear R;by_cases aV:j<O ks
      ·have ct:(j:Int)<(O ks:Int):=oM;obtain⟨x,Y⟩:∃x,ks[j]? =some x:=⟨_,gG aV⟩;obtain⟨L,au,av,aw,ax,ay,aE,af,az,ab,ej,rfl,-,bl,cY⟩:=b2.out j x Y;obtain rfl:ai=some ⟨L,0,I⟩:=ab;have l:=bl wr (aa.out F.kx).2.1;have aM:L<E (U wr):=oH (aa.out F.kx).1.size;have fc:wr.cell? ⟨L,j*11,I⟩=some (vN au):=l 0 dC;have fd:wr.cell? ⟨L,j*11+1,I⟩=some (vN av):=l 1 dC;have fe:wr.cell? ⟨L,j*11+2,I⟩=some (vN aw):=l 2 dC;have ff:wr.cell? ⟨L,j*11+3,I⟩=some (vN ax):=l 3 dC;have fg:wr.cell? ⟨L,j*11+4,I⟩=some (.string ay):=l 4 dC;have fh:wr.cell? ⟨L,j*11+5,I⟩=some (J aE af az):=l 5 dC;have fi:wr.cell? ⟨L,j*11+6,I⟩=some (vN 0):=l 6 dC;have fj:wr.cell? ⟨L,j*11+7,I⟩=some (vN 0):=l 7 dC;have fk:wr.cell? ⟨L,j*11+8,I⟩=some aF:=l 8 dC;have fl:wr.cell? ⟨L,j*11+9,I⟩=some aF:=l 9 dC;have fm:wr.cell? ⟨L,j*11+10,I⟩=some aF:=l 10 dC
       have bm:Hid (ks.take (j+1)=ks.take j++[(ae au av aw ax ay (J aE af az)).toList]):=by
        show ks.take (j+1)=_;rw[List.take_add_one,Y];rfl
       have N:=F.below (al1 wr (Ob (ae au av aw ax ay (J aE af az)) 46)).1;by_cases c0:au=3
       ·subst c0;obtain⟨bV,gp,gq,eI,gr,c2,aH,fn,ab,gs,fo,gt,d4,d5⟩:=cY Q;obtain rfl:aE=some ⟨bV,0,I⟩:=ab;have fp:wr.cell? ⟨bV,5,I⟩=some (J c2 aH fn):=d4 wr (aa.out F.kx).2.1 5 dC;have fq:bV<E (U wr):=oH (aa.out F.kx).1.size;have cD:0<af:=fo;have cE:(0:Int)<(af:Int):=oM;have d6:cT 3 (ae 3 av aw ax ay (J (aS bV) af az)).toList=1:=rfl
        have fr:p<O k.ds:=by
         have A:=fb.out (j+1);rw[bm.out,ck,d6] at A;have aD:=d1.out;have bJ:=ci.out;have b5:=b0.out.2.2.1;have dn:=F.ds;omega
        have c3:Hid (p+1=a0+((ks.take (j+1)).map (cT 3)).sum):=by
         show p+1=_;rw[bm.out,ck,d6,ci.out];omega
        have fs:Hid (∀c,c<aH->∃(V:Nat) (bj bs bt bu:Int) (bv:ByteArray) (bx:OA) (bz bA:Nat),c2=some ⟨V,0,I⟩/\V<B0/\∀y:World,al (λb=>b<B0) w y->∀q,q<11->y.cell? ⟨V,c*11+q,I⟩=(ae bj bs bt bu bv (J bx bz bA)).toList[q]?):=d5
        have ft:Hid (∃P:Dd,k.ds[p]? =some P/\∃aj ak:Nat,P.ak=aj/\P.cL=ak/\aj+ak=0):=by
         obtain⟨P,ag⟩:∃P,k.ds[p]? =some P:=⟨_,gG fr⟩;have A:=cj.out p P (lR _) ag;exact⟨P,ag,0,0,A.1,A.2,Q⟩
        have gu:p<=200000:=oH F.s.pi.bB.2.1;clear d4 d5 cY bl Y F;go_wp2_with fail;clear l fc fd fe ff fg fh fi fj fk fl fm aM fp fq cD cE;generalize wr.alloc (Ob (ae 3 av aw ax ay (J (aS bV) af az)) 46)=gv at N⊢;go_loopg [19,138] aH (λaB _ aC X=>∃(c:Nat) (ad:MK),aB=aH - c/\aC=vN c/\c<=aH/\US Z t M W ao ap aq z H X ad aU/\Hid (∃P:Dd,ad.ds[p]? =some P/\∃aj ak:Nat,P.ak=aj/\P.cL=ak/\aj+ak=c)/\Hid (∀(n:Nat) (d:Dd),p<n->ad.ds[n]? =some d->d.ak=0/\d.cL=0))
        case atStart=>exact⟨0,k,Q,Q,zL _,N,ft,λn d a3 a9=>cj.out n d oM a9⟩
        case round=>
         clear N;obtain⟨c,ad,R,rfl,gw,N,fu,d7⟩:=hrel;have d8:Hid (gk=aH - c):=R;clear R;by_cases c4:c<aH
         ·have fv:(c:Int)<(aH:Int):=oM;obtain⟨V,bj,bs,bt,bu,bv,bx,bz,bA,ab,gx,aQ⟩:=fs.out c c4;obtain rfl:c2=some ⟨V,0,I⟩:=ab;have l:=aQ wr (aa.out N.kx).2.1;have aM:V<E (U wr):=oH (aa.out N.kx).1.size;have fw:wr.cell? ⟨V,c*11,I⟩=some (vN bj):=l 0 dC;have fx:wr.cell? ⟨V,c*11+1,I⟩=some (vN bs):=l 1 dC;have fy:wr.cell? ⟨V,c*11+2,I⟩=some (vN bt):=l 2 dC;have fz:wr.cell? ⟨V,c*11+3,I⟩=some (vN bu):=l 3 dC;have fA:wr.cell? ⟨V,c*11+4,I⟩=some (.string bv):=l 4 dC;have fB:wr.cell? ⟨V,c*11+5,I⟩=some (J bx bz bA):=l 5 dC;have fC:wr.cell? ⟨V,c*11+6,I⟩=some (vN 0):=l 6 dC;have fD:wr.cell? ⟨V,c*11+7,I⟩=some (vN 0):=l 7 dC;have fE:wr.cell? ⟨V,c*11+8,I⟩=some aF:=l 8 dC;have fF:wr.cell? ⟨V,c*11+9,I⟩=some aF:=l 9 dC;have fG:wr.cell? ⟨V,c*11+10,I⟩=some aF:=l 10 dC;have ac:=N.below (al1 wr (Ob (ae bj bs bt bu bv (J bx bz bA)) 46)).1;obtain⟨P,ag,aj,ak,c5,c6,fH⟩:=fu.out;obtain⟨a',gy,aG,fI,-,cl⟩:=aL ac.s.pi.cu sQ (λx Y=>by obtain⟨cL,_,rfl⟩:=List.mem_map.1 Y;rfl) (i:=p) (x:=P.c) (by rw[List.getElem?_map,ag];rfl);have bW:ad.cV=some ⟨a',0,I⟩:=by simp at aG;exact aG.1
          obtain⟨gz,c7⟩:=aX ac.s.pi.cu (b:=a') (by rw[bW];rfl);obtain⟨aJ,cm⟩:∃aJ,aJ=wr.alloc (Ob (ae bj bs bt bu bv (J bx bz bA)) 46):=⟨_,Q⟩;rw[<-cm] at ac fI cl c7;have a7:aJ.heap[E (U wr)]? =some (Ob (ae bj bs bt bu bv (J bx bz bA)) 46 (0,0)):=by rw[cm];exact(al1 wr _).2
          have gA:=λq=>cell_of_row aJ _ q _ 46 (0,0) a7;have gB:E (U wr)<E (U aJ):=(gE a7).1
          have gC:aJ.cell? ⟨t,1,I⟩=some (J (aS a') (O ad.ds) ad.dN):=by
           rw[ac.s.mk'.cell 1];show some (Value.slice ad.cV _ _)=_;rw[bW]
          have dI:=ac.s.mk'.lt
          have gD:aJ.cell? ⟨a',p*10+6,I⟩=some (vN (aj:Int)):=by
           rw[cl 6 dC,<-c5];rfl
          have gF:aJ.cell? ⟨a',p*10+7,I⟩=some (vN (ak:Int)):=by
           rw[cl 7 dC,<-c6];rfl
          have gH:=λq=>frozen_of_row aJ a' q _ 64 c7;have gI:(p:Int)<(O ad.ds:Int):=oH (gS ag).1;have gK:=ac.s.pi.bB.2.1;have gL:aj<=6099:=oM;have gM:ak<=6099:=oM;have d9:Hid (US Z t M W ao ap aq z H (aJ.setCell ⟨a',p*10+6,I⟩ (vN ((aj+1:Nat):Int))) (ad.put p {P with ak:=((aj+1:Nat):Int)}) aU/\US Z t M W ao ap aq z H (aJ.setCell ⟨a',p*10+7,I⟩ (vN ((ak+1:Nat):Int))) (ad.put p {P with cL:=((ak+1:Nat):Int)}) aU):=⟨ac.Lv ag bW oM,ac.Gn ag bW oM⟩;have d':=(gS ag).1;have fJ:Hid (∃aR:Dd,(ad.ds.set p {P with ak:=((aj+1:Nat):Int)})[p]? =some aR/\∃bX bZ:Nat,aR.ak=bX/\aR.cL=bZ/\bX+bZ=c+1):=⟨_,List.getElem?_set_self d',aj+1,ak,Q,c6,oM⟩;have fK:Hid (∃aR:Dd,(ad.ds.set p {P with cL:=((ak+1:Nat):Int)})[p]? =some aR/\∃bX bZ:Nat,aR.ak=bX/\aR.cL=bZ/\bX+bZ=c+1):=⟨_,List.getElem?_set_self d',aj,ak+1,c5,Q,oM⟩;have ea:Hid (∀aR:Dd,∀(n:Nat) (d:Dd),p<n->(ad.ds.set p aR)[n]? =some d->d.ak=0/\d.cL=0):=λaR n d a3 a9=>d7.out n d a3 (by rw[List.getElem?_set_ne oM] at a9;exact a9);clear a7 l aQ N ac aG cl c7 fH c5 c6 ag bW;go_upto_region 33 with fail
          rw[<-cm];clear cm fw fx fy fz fA fB fC fD fE fF fG aM
          cases gN:(bj==10)
          ·go_wp2_with fail;go_roundg (aH - (c+1))
           case measure=>rw[d8.out];omega
           case rel=>exact⟨c+1,_,Q,by go_num,c4,d9.out.2,fK,ea.out _⟩
          ·go_wp2_with fail;go_roundg (aH - (c+1))
           case measure=>rw[d8.out];omega
           case rel=>exact⟨c+1,_,Q,by go_num,c4,d9.out.1,fJ,ea.out _⟩
         ·have fv:¬(c:Int)<(aH:Int):=oM;go_wp2_with fail;go_roundg (O ks - (j+1))
          case measure=>rw[d3.out];omega
          case rel=>exact⟨j+1,p+1,ad,Q,by go_num,by go_num,aV,c3,N,λn d a3 a9=>d7.out n d oM a9⟩
       ·have e6:(au==3)=false:=sU c0
        have c3:Hid (p=a0+((ks.take (j+1)).map (cT 3)).sum):=by
         show p=_;have b6:cT 3 (ae au av aw ax ay (J aE af az)).toList=0:=(if_neg c0:(if au=3 then 1 else 0)=0);rw[bm.out,ck,b6];exact ci.out
        clear bl Y F cY;go_wp2_with fail;go_roundg (O ks - (j+1))
        case measure=>rw[d3.out];omega
        case rel=>exact⟨j+1,p,k,Q,by go_num,Q,aV,c3,N,cj⟩
      ·have ct:¬(j:Int)<(O ks:Int):=oM
       have fL:Hid (p=1+((kss.take (K+1)).flatten.map (cT 3)).sum):=by
        have A:=ci.out;rw[List.take_of_length_le oM] at A;show p=_;rw[d2.out,List.map_append,List.sum_append,A,d1.out];omega
       go_wp2_with fail;go_roundg (O mks - (K+1))
       case measure=>rw[e9.out];omega
       case rel=>exact⟨K+1,p,k,Q,by go_num,Q,e',fL,F,cj⟩
    ·have fa:¬(K:Int)<(O mks:Int):=oM;go_wp2_with fail;go_end0;exact⟨bU,aU,Q,⟨ah.s,(aa.out ah.kx).1,ah.m1,λb dh ar=>ah.m2 b oM ar,ah.ml,ah.own,ah.ds,ah.rest,ah.hf,ah.dj⟩⟩
end Go.Proofs.YtcnnibahjmekdaaGreat
