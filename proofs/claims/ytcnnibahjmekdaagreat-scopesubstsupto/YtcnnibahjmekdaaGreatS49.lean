import Derived.Deep.CutBlock
import Derived.Test.YtcnnibahjmekdaaGreatS45
import Derived.Test.YtcnnibahjmekdaaGreatS47
namespace Go.Proofs.YtcnnibahjmekdaaGreat
open Go.RowKit
open Value renaming slice→J
open List renaming length→O
open Option renaming none→I
open World renaming heap→U
open _root_.Array renaming size→E
open Obj renaming cells→Ob
set_option linter.all false
set_option maxRecDepth 100000
set_option maxHeartbeats 0
theorem ke (c:Int) (l:VV):(l.map (cT c)).sum<=O l:=by
 induction l with
 |nil=>simp
 |cons a l b=>
  have d:cT c a<=1:=by
   unfold cT;split
   ·split<;>omega
   ·omega
  simp only[List.map_cons,List.sum_cons,List.length_cons];omega
theorem vk {h:Nat} {w:World} {l:Nat} {M:MK} {aR:VV} {ak ao ap:Nat} {aD:Nat->Prop} {H:Nat} (hS:MS w l M aR [] [] ak ao ap aD H) (br:M.ms=[]) {dg:OA} {dh:Nat} (eg:M.tv=J dg (O aR) dh) {B0:Nat} (cB:∀b,aD b->B0<=b) (di:B0<=E (U w)) {pos n m:Int} {name:ByteArray} {ko:OA} {kc:Nat} {mks:VV} (cd:cZ B0 w (J ko (O mks) kc) mks) (dj:∀i,i<O mks->∃g,ko=some ⟨g,0,I⟩) {kss:List VV} (fn:O kss=O mks) (dk:∀(i:Nat) (ks:VV),kss[i]? =some ks->∃ay az aA D ag c1,mks[i]? =some (ae 1 ay az aA D (J ag (O ks) c1)).toList/\cZ B0 w (J ag (O ks) c1) ks/\(∀i,i<O ks->∃g,ag=some ⟨g,0,I⟩)/\∀x∈ks,isNode (λb=>b<B0) True (h+1) w x) (eh:(kss.flatten.map bG).sum<=100000) (ei:O kss.flatten<=100000) (dl:O M.ds<=100/\O aR<=100):
 Calls Tryz.prog 27 #[.pointer (aS l),.agg (ae 0 pos n m name (J ko (O mks) kc))] w (ux w l M aR ak ao ap aD H kss):=by
 have fo:B0<=l:=cB l hS.dT;have fp:=cd.len.2;obtain⟨ce,dm⟩:=al1 w (Ob (ae 0 pos n m name (J ko (O mks) kc)) 46)
 have ej:Hid (∀(i:Nat) (ks:VV),kss[i]? =some ks->∃ay az aA D ag c1 g,ko=some ⟨g,0,I⟩/\g<B0/\O ks<=20000/\(∀aj:World,al (λb=>b<B0) w aj->∀j,j<11->aj.cell? ⟨g,i*11+j,I⟩=(ae 1 ay az aA D (J ag (O ks) c1)).toList[j]?)/\∀(j:Nat) (x:List Value),ks[j]? =some x->∃aH u y z A f B q C,ag=some ⟨aH,0,I⟩/\aH<B0/\x=(ae u y z A f (J B q C)).toList/\(q<=20000/\(u=7->2<=q))/\∀aj:World,al (λb=>b<B0) w aj->∀e,e<11->aj.cell? ⟨aH,j*11+e,I⟩=x[e]?):=by
  intro i ks bs;obtain⟨ay,az,aA,D,ag,c1,aM,cC,ek,dn⟩:=dk i ks bs;have dp:=(gS aM).1;obtain⟨g,K⟩:=dj i dp
  have el:g<B0:=by
   obtain⟨bH,e,aE,dq,-⟩:=cd.nth aM;rw[K] at aE;simp at aE;omega
  refine⟨ay,az,aA,D,ag,c1,g,K,el,cC.len.2,λaj cD j cE=>?_,λj x ah=>?_⟩
  ·obtain⟨bH,e,aE,-,cG⟩:=(cd.frame cD di).nth aM;rw[K] at aE;obtain⟨rfl,rfl⟩:g=bH/\e=0:=by simp at aE;exact⟨aE.1,aE.2.symm⟩
   have:=cG j cE;rw[Nat.zero_add] at this;exact this
  ·obtain⟨u,y,z,A,f,B,q,C,rfl,-⟩:=isNode.cells (dn x (mG ah));obtain⟨aH,bI⟩:=ek j (gS ah).1
   have dr:aH<B0:=by
    obtain⟨bH,e,aE,dq,-⟩:=cC.nth ah;rw[bI] at aE;simp at aE;omega
   have cf:q<=20000/\(u=7->2<=q):=by
    obtain⟨fq,rfl,em,-,en,-⟩:=(dn _ (mG ah)).kids;refine⟨em.len.2,λeo=>?_⟩;obtain⟨-,fr,fs,ep,-,-⟩:=en.impl eo;have:=congrArg List.length ep;simp at this;omega
   refine⟨aH,u,y,z,A,f,B,q,C,bI,dr,Q,cf,λaj cD e eq=>?_⟩;obtain⟨bH,er,aE,-,cG⟩:=(cC.frame cD di).nth ah;rw[bI] at aE;obtain⟨rfl,rfl⟩:aH=bH/\er=0:=by simp at aE;exact⟨aE.1,aE.2.symm⟩
   have:=cG e eq;rw[Nat.zero_add] at this;exact this
 have ds:Hid ((∀b,aD b->B0<=b)/\(∀b,aD b->b<E (U w))):=⟨cB,hS.mlt⟩;have cH:NO (w.alloc (Ob (ae 0 pos n m name (J ko (O mks) kc)) 46)) l M aR ak ao ap aD H [] (w.alloc (Ob (ae 0 pos n m name (J ko (O mks) kc)) 46)) M aR aD:=⟨hS.below ce,KX.refl _ _ _,λ_ h=>h,λ_ _ h=>h,by rw[br];rfl,sQ,sQ,λj d cE es=>oH (gS es).1,⟨dg,dh,eg⟩,⟨Q,Q,Q,Q,Q⟩,λm aM=>by rw[br] at aM;simp at aM,λm aM=>by rw[br] at aM;simp at aM,λ_ j et ks bJ=>by rw[br] at bJ;simp at bJ,λj et ks bJ=>by rw[br] at bJ;simp at bJ,λi j ft b dt=>by rw[br] at dt;simp at dt⟩;obtain⟨a1,bt⟩:∃a1,a1=w.alloc (Ob (ae 0 pos n m name (J ko (O mks) kc)) 46):=⟨_,Q⟩;have fu:E (U a1)=E (U w)+1:=by rw[bt];simp
 have bc:Hid (∀{aj:World},KX aD (E (U a1)) a1 aj->KX aD (E (U w)) w aj/\al (λb=>b<B0) w aj/\aj.heap[E (U w)]? =some (Ob (ae 0 pos n m name (J ko (O mks) kc)) 46 (0,0))):=λ{aj} bK=>by
  rw[bt] at bK;have du:KX aD (E (U w)) w aj:=(KX.aq ce).trans (bK.mono (λ_ _ h=>h) sQ);refine⟨du,λb aq cg=>du.block b cg (λaM=>oH (ds.out.1 b aM)),(bK.block _ sQ (λaM=>?_)).trans dm⟩;have:=ds.out.2 _ aM;omega
 have fv:Hid (Below (E (U w)) w a1):=by rw[bt];exact ce
 rw[<-bt] at cH
 have cI:Hid (∀i,((kss.take i).flatten.map bG).sum<=100000/\O (kss.take i).flatten<=100000):=λi=>by
  have K:kss.flatten=(kss.take i).flatten++(kss.drop i).flatten:=by rw[<-List.flatten_append,List.take_append_drop]
  have R:=eh;have aF:=ei;rw[K,List.map_append,List.sum_append] at R;rw[K,List.length_append] at aF;exact⟨oM,oM⟩
 clear hS cB cd dj dk ce dm;go_enter Tryz.func27,Tryz.ntmps27
 go_wp2_with fail;rw[<-bt];clear bt;go_loopg [4,6,7,9,10,12,56,96,130,137,16] (O mks) (λbL cJ _ _ _ _ _ _ _ _ _ aT wr=>∃(X T:Nat) (bu:MK) (av:VV) (aa:Nat->Prop),bL=O mks - X/\aT=vN X/\cJ=vN (T:Int)/\Hid (T=((kss.take X).flatten.map bG).sum)/\X<=O mks/\NO a1 l M aR ak ao ap aD H (kss.take X) wr bu av aa)
 case atStart=>exact⟨0,0,M,aR,aD,Q,Q,Q,Q,zL _,cH⟩
 case round=>
  clear cH;obtain⟨X,T,bu,av,aa,a9,rfl,rfl,ch,fw,aw⟩:=hrel;have eu:Hid (gk=O mks - X):=a9;clear a9;have dv:=λe=>cell_of_row wr _ e _ 46 (0,0) (bc.out aw.kx).2.2;have dw:E (U w)<E (U wr):=(gE (bc.out aw.kx).2.2).1;by_cases ev:X<O mks
  ·have ew:(X:Int)<(O mks:Int):=oM;obtain⟨ks,bs⟩:∃ks,kss[X]? =some ks:=⟨_,gG oM⟩;obtain⟨ay,az,aA,D,ag,c1,g,K,dq,fx,dx,dy⟩:=ej.out X ks bs;obtain rfl:ko=some ⟨g,0,I⟩:=K;have bN:=dx wr (bc.out aw.kx).2.1;have ci:g<E (U wr):=oH (bc.out aw.kx).1.size;have dz:=qt bN;have cj:Hid (kss[X]? =some ks/\kss.take (X+1)=kss.take X++[ks]/\∀(j:Nat) (x:List Value),ks[j]? =some x->∃aH u y z A f B q C,ag=some ⟨aH,0,I⟩/\aH<B0/\x=(ae u y z A f (J B q C)).toList/\(q<=20000/\(u=7->2<=q))/\∀aj:World,al (λb=>b<B0) w aj->∀e,e<11->aj.cell? ⟨aH,j*11+e,I⟩=x[e]?):=⟨bs,by rw[List.take_add_one,bs];rfl,dy⟩;have bd:=aw.below (al1 wr (Ob (ae 1 ay az aA D (J ag (O ks) c1)) 46)).1;clear bN dx dy bs;go_upto_region 5 with fail
   go_cut [32] (λex aB=>∃cK:Bool,ex=.bool cK/\Below (E (U (wr.alloc (Ob (ae 1 ay az aA D (J ag (O ks) c1)) 46)))) (wr.alloc (Ob (ae 1 ay az aA D (J ag (O ks) c1)) 46)) aB)
   case first=>
    clear dv dw dz ci;have cm:Hid (∀{k:World},Below (E (U (wr.alloc (Ob (ae 1 ay az aA D (J ag (O ks) c1)) 46)))) (wr.alloc (Ob (ae 1 ay az aA D (J ag (O ks) c1)) 46)) k->(Ce k l (jO bu))/\(Ce k (E (U wr)) (ae 1 ay az aA D (J ag (O ks) c1)))):=λ{k} aq=>⟨(bd.s.mk'.below aq).cell,λe=>cell_of_row k _ e _ 46 (0,0) ((aq.block _ sQ).trans (al1 wr _).2)⟩
    as_aux_lemma=>
     refine wp_region_noPanic ?_;refine wp_region_held_drew (S:=(λk=>(Ce k l (jO bu))/\(Ce k (E (U wr)) (ae 1 ay az aA D (J ag (O ks) c1))))) (by as_aux_lemma=>kernel_rfl) ?_ (λhHeld=>?_)
     ·(try dsimp only)
      (first|assumption|exact cm.out ((Below.refl _ _).drew)|exact cm.out cn)
     refine aK 0 ?_;refine aK 1 ?_;refine aK 2 ?_;refine aK 3 ?_;refine aK 4 ?_;refine aK 5 ?_;refine eJ 6 (λP hK=>?_);go_simp
     (go_at_call 44;refine(kP (bd.s.pi.cK.below ((Below.refl _ _).drew)) _ _ _ _ _ _ _).mono ?_;rintro ey fy ⟨r,rfl,fz,ez⟩;have cn:=((Below.refl (E (U (wr.alloc (Ob (ae 1 ay az aA D (J ag (O ks) c1)) 46)))) (wr.alloc (Ob (ae 1 ay az aA D (J ag (O ks) c1)) 46))).drew).trans (ez.mono (lR _)))
     try go_wp2_with fail
     refine hK.out _ _ ?_ (λa'=>?_)
     ·(try dsimp only)
      (first|assumption|exact cm.out ((Below.refl _ _).drew)|exact cm.out cn)
     clear hK P hHeld;have hHeld:=a';clear a';try simp only[Act.put,List.setIfInBounds_toArray,List.set_cons_zero,List.set_cons_succ]
     by_cases dA:(0:Int)<=r
     ·have eA:decide (0<=r)=true:=sU dA;refine aK 7 ?_;refine aK 8 ?_;refine wpAnyH_take (i:=9) (v:=undef) (by simp only[List.getElem?_toArray,List.getElem?_cons_succ,List.getElem?_cons_zero];rfl) kQ kQ kQ (λ_ _ _ h=>h) (Or.inr ⟨rQ,Q⟩) (by assumption) ?_;try simp only[Act.put,List.setIfInBounds_toArray,List.set_cons_zero,List.set_cons_succ]
      refine wpAnyH_take (i:=10) (v:=undef) (by simp only[List.getElem?_toArray,List.getElem?_cons_succ,List.getElem?_cons_zero];rfl) kQ kQ kQ (λ_ _ _ h=>h) (Or.inr ⟨rQ,Q⟩) (by assumption) ?_;try simp only[Act.put,List.setIfInBounds_toArray,List.set_cons_zero,List.set_cons_succ]
      refine wpAnyH_take (i:=11) (v:=undef) (by simp only[List.getElem?_toArray,List.getElem?_cons_succ,List.getElem?_cons_zero];rfl) kQ kQ kQ (λ_ _ _ h=>h) (Or.inr ⟨rQ,Q⟩) (by assumption) ?_;try simp only[Act.put,List.setIfInBounds_toArray,List.set_cons_zero,List.set_cons_succ]
      refine aK 12 ?_;refine wpAnyH_done (by as_aux_lemma=>kernel_rfl) ?_ _;refine NoPanic.normal ?_;go_wp2_with fail;go_meet;exact⟨_,Q,cn⟩
     ·have eA:decide (0<=r)=false:=sU dA;refine aK 7 ?_;refine aK 8 ?_;refine aK 9 ?_;refine aK 10 ?_;refine aK 11 ?_;refine aK 12 ?_;refine wpAnyH_done (by as_aux_lemma=>kernel_rfl) ?_ _;refine NoPanic.normal ?_;go_wp2_with fail;go_meet;exact⟨_,Q,cn⟩
   case rest=>
    clear dv dw dz ci;obtain⟨cK,rfl,cL⟩:=hcut;have ab:=bd.below cL;have aU:wc.heap[E (U wr)]? =some (Ob (ae 1 ay az aA D (J ag (O ks) c1)) 46 (0,0)):=(cL.block _ sQ).trans (al1 wr _).2;obtain⟨bO,dB⟩:∃bO,bO=E (U wr):=⟨_,Q⟩;rw[<-dB] at aU⊢;clear cL bd aw dB;have cM:=λe=>cell_of_row wc _ e _ 46 (0,0) aU;have co:bO<E (U wc):=(gE aU).1;obtain⟨dD,eB⟩:∃dD,dD=wc:=⟨_,Q⟩;subst eB;go_upto_if 32 with fail
    go_cut [] (λaB=>∃aC:MK,NO a1 l M aR ak ao ap aD H (kss.take X) aB aC av aa/\aB.heap[bO]? =some (Ob (ae 1 ay az aA D (J ag (O ks) c1)) 46 (0,0)))
    case first=>
     cases cK
     ·go_wp2_with fail;go_meet;exact⟨bu,ab,aU⟩
     ·go_wp2_with (go_at_call 45;refine(bY ab.s.mk' _ _).mono ?_;rintro fB fC ⟨⟨fD,fE,rfl,eC,dE,eD⟩,-⟩)
      go_meet;exact⟨_,ab.bt dE eC eD,(dE.block _ co (aI aU ab.s.mk' dC)).trans aU⟩
    case rest=>
     clear cM co ab aU;obtain⟨aC,bg,aU⟩:=hcut;have cp:=bg.open D;obtain⟨ai,eE⟩:∃ai,ai=wc:=⟨_,Q⟩;subst eE;obtain⟨L,bh⟩:∃L,L=E (U ai):=⟨_,Q⟩;obtain⟨dF,cN⟩:∃dF,dF=ai.alloc (Ob #[.string D,J I 0 0,vN 0] 115):=⟨_,Q⟩;rw[<-cN,<-bh,<-ch.out] at cp;obtain⟨cO,dG⟩:∃cO:Nat->Prop,cO=(λb=>aa b\/b=L):=⟨_,Q⟩;rw[<-dG] at cp;clear dG;have cM:=λe=>cell_of_row ai _ e _ 46 (0,0) aU;have co:bO<E (U ai):=(gE aU).1;have bv:Hid (NO a1 l M aR ak ao ap aD H (kss.take X) ai aC av aa):=bg;have eF:Hid (∀{aj:World},KX aa (E (U ai)) ai aj->al (λb=>b<B0) w aj):=λ{aj} bK=>(bc.out (bg.kx.trans (bK.mono (λb cg aq=>bg.m2 b cg aq) bg.kx.size))).2.1;have fF:B0<=E (U ai):=oH (bc.out bg.kx).1.size;go_wp2_with fail;rw[<-cN,<-bh];clear cN bh cM co aU bg;go_loopg [4,9,10,12,56,96,130,137,43] (O ks) (λbL cJ _ _ _ _ _ _ _ aT aB=>∃(j ac:Nat) (Y:OA) (Z:Nat) (t:List Nm) (a:MK) (G:VV) (aV:Nat->Prop),bL=O ks - j/\aT=vN j/\cJ=vN (ac:Int)/\Hid (ac=T+((ks.take j).map bG).sum)/\j<=O ks/\NI ai l L aC av ak ao ap aa aV H D 0 Y Z t (ks.take j) (ks.take j) T aB a G)
     case atStart=>exact⟨0,T,I,0,[],aC,av,cO,Q,Q,Q,(by show T=_;simp),zL _,cp⟩
     case round=>
      clear cp;obtain⟨j,ac,Y,Z,t,a,G,aV,a9,rfl,rfl,dH,cE,aw⟩:=hrel;have cP:Hid (gk=O ks - j):=a9;clear a9;by_cases cq:j<O ks
      ·have eG:(j:Int)<(O ks:Int):=oM;obtain⟨x,ah⟩:∃x,ks[j]? =some x:=⟨_,gG cq⟩;obtain⟨aH,u,y,z,A,f,B,q,C,K,dr,rfl,cf,dI⟩:=cj.out.2.2 j x ah;have dJ:Hid (q<=20000/\(u=7->2<=q)):=cf;clear cf;obtain rfl:ag=some ⟨aH,0,I⟩:=K;have bN:=dI wr (eF.out aw.e.kx);have ci:aH<E (U wr):=oH aw.e.kx.size;have eH:=qt bN
       have a2:Hid (ks.take (j+1)=ks.take j++[(ae u y z A f (J B q C)).toList]/\T+((ks.take (j+1)).map bG).sum<=100000/\ac+bG (ae u y z A f (J B q C)).toList=T+((ks.take (j+1)).map bG).sum):=by
        have dK:ks.take (j+1)=ks.take j++[(ae u y z A f (J B q C)).toList]:=by rw[List.take_add_one,ah];rfl
        have bI:=(cI.out (X+1)).1;rw[cj.out.2.1,List.flatten_append,List.map_append,List.sum_append,<-ch.out] at bI;have eK:=bM (ks.map bG) (j+1);rw[<-List.map_take] at eK;have fG:([ks].flatten.map bG).sum=(ks.map bG).sum:=sQ;have ey:=dH.out;refine⟨dK,oM,?_⟩;rw[dK,ck];omega
       have bd:=aw.below (al1 wr (Ob (ae u y z A f (J B q C)) 46)).1;have eL:Hid (NI ai l L aC av ak ao ap aa aV H D 0 Y Z t (ks.take j) (ks.take j) T wr a G):=aw;clear bN dI ah aw;go_upto_region 11 with fail
       go_cut [10] (λeM aB=>∃F:Bool,eM=.pointer (aS (E (U wr)+1))/\aB=((wr.alloc (Ob (ae u y z A f (J B q C)) 46)).alloc (Ob #[.string f,vN 0,vN 0,.bool F] 117)))
       case first=>
        go_wp2_with fail;go_meet;exact⟨_,Q,Q⟩
       case rest=>
        clear eH ci;obtain⟨F,rfl,rfl⟩:=hcut;obtain⟨cQ,aQ,aN⟩:=eI wr (Ob (ae u y z A f (J B q C)) 46) (Ob #[.string f,vN 0,vN 0,.bool F] 117);have ab:=bd.below ((al1 (wr.alloc (Ob (ae u y z A f (J B q C)) 46)) (Ob #[.string f,vN 0,vN 0,.bool F] 117)).1);generalize hq:World.alloc (World.alloc wr _) _=ax;have dL:((wr.alloc (Ob (ae u y z A f (J B q C)) 46)).alloc (Ob #[.string f,vN 0,vN 0,.bool F] 117))=ax:=hq;rw[dL] at cQ aQ aN ab;clear hq dL bd;have bw:Hid (Below (E (U wr)) wr ax/\NI ai l L aC av ak ao ap aa aV H D 0 Y Z t (ks.take j) (ks.take j) T wr a G):=⟨cQ,eL.out⟩;clear cQ;obtain⟨V,dM⟩:∃V,V=E (U wr):=⟨_,Q⟩;obtain⟨o,dN⟩:∃o,o=E (U wr)+1:=⟨_,Q⟩;have bx:V≠o:=oM;have bz:Hid (E (U wr)<=o/\E (U wr)<=V):=⟨oM,oM⟩;rw[<-dN] at aN⊢;rw[<-dM] at aQ⊢;clear dM dN;have bP:=λe=>cell_of_row ax _ e _ 46 (0,0) aQ;have bA:V<E (U ax):=(gE aQ).1;have cr:=λe=>cell_of_row ax _ e _ 117 (0,0) aN;have cR:=λe=>frozen_of_row ax o e _ 117 aN;have bQ:o<E (U ax):=(gE aN).1;go_upto_block 4 with fail
        go_cut [4] (λeN aB=>∃(cs:Nat) (bB:MK) (bi:VV) (cS:Nat->Prop) (r:Nm),eN=vN (cs:Int)/\Hid (cs=T+((ks.take (j+1)).map bG).sum)/\Hid (u=3\/u=6\/u=8)/\NI ai l L aC av ak ao ap aa cS H D 0 Y Z t (ks.take j++[(ae u y z A f (J B q C)).toList]) (ks.take j) T aB bB bi/\aB.heap[V]? =some (Ob (ae u y z A f (J B q C)) 46 (0,0))/\aB.heap[o]? =some (Ob #[.string f,vN r.sort,vN r.n,.bool F] 117 (0,0))/\Hid (r.name=f/\r.eQ=F/\rW (O bB.ds) (O bi) (T+((ks.take j++[(ae u y z A f (J B q C)).toList]).map bG).sum) r/\(u=3->r.sort=0)/\(u=6->r.sort=2)/\(u=8->r.sort=3)))
        case first=>
         by_cases a3:u=3
         ·subst a3;have cT:Hid (Hid ((3:Int)=3\/(3:Int)=6\/(3:Int)=8)):=by first|exact .inl rfl|exact .inr (.inl Q)
          have aJ:Hid (ac=T+((ks.take (j+1)).map bG).sum):=a2.out.2.2
          have cU:O a.ms<=19999:=by
           have R:=bv.out.ml;rw[List.length_take] at R;rw[ab.ms.1];omega
          have cV:O a.ds<=199999:=by
           have R:=ab.dl;have aF:=bv.out.dl;have a3:=ke 3 (ks.take j);have a4:=ke 3 (kss.take X).flatten;have eO:=(cI.out X).2;have bR:=List.length_take_le j ks;have bS:=dl;omega
          obtain⟨bT,bU,ct⟩:=ab.tv;obtain⟨W,aW⟩:∃W,W=(ax.setCell ⟨o,1,I⟩ (vN 0)).setCell ⟨o,2,I⟩ (vN (O a.ds)):=⟨_,Q⟩
          have aX:NI ai l L aC av ak ao ap aa aV H D 0 Y Z t (ks.take j) (ks.take j) T W a G:=by
           rw[aW];exact bw.out.2.below ((bw.out.1.setCell (p:=⟨o,1,I⟩) bz.out.1 _).setCell (p:=⟨o,2,I⟩) bz.out.1 _)
          have a5:W.heap[V]? =some (Ob (ae 3 y z A f (J B q C)) 46 (0,0)):=by
           rw[aW];exact(Below.heap_setCell _ ⟨o,2,I⟩ _ _ bx).trans ((Below.heap_setCell _ ⟨o,1,I⟩ _ _ bx).trans aQ)
          have a6:W.heap[o]? =some (Ob #[.string f,vN 0,vN (O a.ds),.bool F] 117 (0,0)):=by
           have R:=heap_setCell_same ax o 1 _ 117 (vN 0) aN;have aF:=heap_setCell_same _ o 2 _ 117 (vN (O a.ds)) R;rw[aW];exact aF
          have eP:l≠o:=aI ab.e.s.mk' aN dC;have eQ:V≠l:=aI aQ ab.e.s.mk' dC;have cW:=ab.e.s.mk'.lt
          have cX:ax.cell? ⟨l,1,I⟩=some (J a.cV (O a.ds) a.dN):=by
           rw[ab.e.s.mk'.cell 1];rfl
          have eR:W.cell? ⟨l,1,I⟩=some (J a.cV (O a.ds) a.dN):=by
           rw[aX.e.s.mk'.cell 1];rfl
          have dO:=aX.e.s.mk'.lt;have dP:l<E (U W)+1:=oM;have bj:Hid (∀{k:World} {aY:MK},k.heap[V]? =some (Ob (ae 3 y z A f (J B q C)) 46 (0,0))->k.heap[o]? =some (Ob #[.string f,vN 0,vN (O a.ds),.bool F] 117 (0,0))->cF k l aY->(aY.mo=a.mo/\aY.ms=a.ms/\aY.mc=a.mc)->(Ce k V (ae 3 y z A f (J B q C)))/\(∀e,k.cell? ⟨o,e,I⟩=#[.string f,vN 0,vN (O a.ds),.bool F][e]?)/\k.cell? ⟨l,0,I⟩=some (J a.mo (O a.ms) a.mc)):=λ{k aY} R aF a3 a4=>⟨λe=>cell_of_row k _ e _ 46 (0,0) R,λe=>cell_of_row k _ e _ 117 (0,0) aF,by rw[a3.cell 0,<-a4.1,<-a4.2.1,<-a4.2.2];rfl⟩;have KB:Hid (∀{k:World},Below (E (U W)) W k->(Ce k V (ae 3 y z A f (J B q C)))/\(∀e,k.cell? ⟨o,e,I⟩=#[.string f,vN 0,vN (O a.ds),.bool F][e]?)/\k.cell? ⟨l,0,I⟩=some (J a.mo (O a.ms) a.mc)):=λ{k} aq=>bj.out ((aq.block _ (gE a5).1).trans a5) ((aq.block _ (gE a6).1).trans a6) (aX.e.s.mk'.below aq) ⟨Q,Q,Q⟩
          have bV:Hid (∀aG:TypeId,∃af N,(Builtin.append_ #[24,24] aG #[J a.cV (O a.ds) a.dN,J (aS (E (U W))) 1 1]).run Tryz.prog ((W.alloc (Ob #[.string f,vN (O a.ms),vN y,.bool F,.bool (decide (2<=A)),.bool (z==1),vN 0,vN 0,J I 0 0,vN (-1)] 64)).drew)=.ok af N/\∃(ar:OA) (au:Nat) (aZ:Nat->Prop) (a7:MK) (a8:VV),af=J ar (O a.ds+1) au/\cF N l a/\(λk:World=>(Ce k V (ae 3 y z A f (J B q C)))/\(∀e,k.cell? ⟨o,e,I⟩=#[.string f,vN 0,vN (O a.ds),.bool F][e]?)/\k.cell? ⟨l,0,I⟩=some (J a.mo (O a.ms) a.mc)) N/\(λk:World=>(Ce k V (ae 3 y z A f (J B q C)))/\(∀e,k.cell? ⟨o,e,I⟩=#[.string f,vN 0,vN (O a.ds),.bool F][e]?)/\k.cell? ⟨l,0,I⟩=some (J a.mo (O a.ms) a.mc)) (N.setCell ⟨l,1,I⟩ (J ar (O a.ds+1) au))/\NI ai l L aC av ak ao ap aa aZ H D 0 Y Z t (ks.take j++[(ae 3 y z A f (J B q C)).toList]) (ks.take j) T (N.setCell ⟨l,1,I⟩ (J ar (O a.ds+1) au)) a7 a8/\(N.setCell ⟨l,1,I⟩ (J ar (O a.ds+1) au)).heap[V]? =some (Ob (ae 3 y z A f (J B q C)) 46 (0,0))/\(N.setCell ⟨l,1,I⟩ (J ar (O a.ds+1) au)).heap[o]? =some (Ob #[.string f,vN 0,vN (O a.ds),.bool F] 117 (0,0))/\rW (O a7.ds) (O a8) (T+((ks.take j++[(ae 3 y z A f (J B q C)).toList]).map bG).sum) ⟨f,0,O a.ds,F⟩):=λaG=>by
           have bk:=(Below.refl (E (U W)) W).drew;have bD:=aX.below bk;have bW:=(bk.block _ (gE a5).1).trans a5;have bX:=(bk.block _ (gE a6).1).trans a6;obtain⟨af,N,bl,bZ,b0,aa,bm,bn,b1,-,b2,-,aO⟩:=bD.data (x:=(ae 3 y z A f (J B q C)).toList) Q Q (d:=⟨f,O a.ms,y,F,decide (2<=A),z==1,0,0,I,0,[],-1⟩) Q Q ⟨Q,Q⟩ Q (cl:=#[.string f,vN (O a.ms),vN y,.bool F,.bool (decide (2<=A)),.bool (z==1),vN 0,vN 0,J I 0 0,vN (-1)]) Q Q (by intro aT dQ;simp only[List.mem_cons,List.not_mem_nil,or_false] at dQ;rcases dQ with rfl|rfl|rfl|rfl|rfl|rfl|rfl|rfl|rfl|rfl<;>rfl) cV aG Q;have cY:=fA b1 bW dC;have c0:=fA b1 bX dC;have b3:=fA b2 bW dC;have b4:=fA b2 bX dC;refine⟨af,N,bl,bZ,b0,aa,_,_,bm,bn,bj.out cY c0 bn ⟨Q,Q,Q⟩,bj.out b3 b4 aO.e.s.mk' ⟨Q,Q,Q⟩,aO,b3,b4,?_⟩;refine⟨⟨Int.natCast_nonneg _,λ_=>?_,λK=>absurd (show(0:Int)=2 from K) dC⟩,λK=>absurd (show(0:Int)=3 from K) dC⟩;show((O a.ds:Nat):Int)<((O (a.ds++[_]):Nat):Int);rw[List.length_append];simp only[List.length_cons,List.length_nil];omega
          clear aX;go_upto_region 16 with fail
          rw[<-aW];clear aW bP bA cr cR bQ cX cW aQ aN ab;refine wp_region_noPanic ?_;refine wp_region_held_drew (S:=(λk=>(Ce k V (ae 3 y z A f (J B q C)))/\(∀e,k.cell? ⟨o,e,I⟩=#[.string f,vN 0,vN (O a.ds),.bool F][e]?)/\k.cell? ⟨l,0,I⟩=some (J a.mo (O a.ms) a.mc))) (by as_aux_lemma=>kernel_rfl) ?_ (λhHeld=>?_)
          ·(try dsimp only)
           (first|assumption|exact KB.out ((Below.refl _ _).drew)|exact KB.out ((al1 _ _).1.drew)|exact KS10|exact KS11)
          refine aK 0 ?_;refine aK 1 ?_;refine aK 2 ?_;refine aK 3 ?_;refine aK 4 ?_;refine aK 6 ?_;refine aK 7 ?_;refine aK 8 ?_;refine aK 9 ?_;refine aK 10 ?_;refine aK 11 ?_;refine aK 12 ?_;refine aK 13 ?_;refine aK 14 ?_;refine aK 15 ?_;refine aK 16 ?_;refine aK 17 ?_;refine aK 18 ?_;refine aK 19 ?_;refine aK 20 ?_;refine aK 21 ?_;refine aK 22 ?_;refine aK 23 ?_;refine aK 24 ?_;apply ly
          case h=>
           intro TL;refine pU 5 25 (λP hK=>?_) (λP hK=>?_)
           ·go_simp;refine dV hK ?_;clear hK P;intro a';refine eJ 25 (λP hK=>?_);go_simp;refine dV hK ?_;exact TL trivial
           ·go_simp;refine dV hK ?_;clear hK P;intro a';refine eJ 5 (λP hK=>?_);go_simp;refine dV hK ?_;exact TL trivial
          case p=>
           clear hHeld;intro hHeld;refine eJ 26 (λP hK=>?_)
           (refine bf 24 (v:=J a.cV (O a.ds) a.dN) (xv:=J (aS (E (U W))) 1 1) rQ rQ rQ rQ (bV.out _) ?_;rintro af dR ⟨ar,au,aZ,a7,a8,rfl,a0,KS10,KS11,aO,c2,c3,c4⟩;have dS:=a0.cell;have dT:=a0.fz;have dU:=a0.lt)
           refine dV hK ?_;clear hK P hHeld;intro hHeld;refine aK 27 ?_;refine aK 28 ?_;refine aK 29 ?_;refine eJ 30 (λP hK=>?_);go_simp;refine dV hK ?_;clear hK P hHeld;intro hHeld;refine wpAnyH_done (by as_aux_lemma=>kernel_rfl) ?_ _;refine NoPanic.normal ?_;go_wp2_with fail;go_meet;exact⟨ac,a7,a8,aZ,⟨f,0,O a.ds,F⟩,Q,aJ,cT.out,aO,c2,c3,Q,Q,c4,λ_=>rfl,λK=>absurd K dC,λK=>absurd K dC⟩
         ·have fH:(u==3)=false:=sU a3;by_cases bR:u=6
          ·subst bR;have cT:Hid (Hid ((6:Int)=3\/(6:Int)=6\/(6:Int)=8)):=by first|exact .inl rfl|exact .inr (.inl Q)
           have aJ:Hid (ac=T+((ks.take (j+1)).map bG).sum):=a2.out.2.2
           have cU:O a.ms<=19999:=by
            have R:=bv.out.ml;rw[List.length_take] at R;rw[ab.ms.1];omega
           have cV:O G<=199999:=by
            have R:=ab.tl;have aF:=bv.out.tl;have a3:=ke 6 (ks.take j);have a4:=ke 6 (kss.take X).flatten;have eO:=(cI.out X).2;have bR:=List.length_take_le j ks;have bS:=dl;omega
           obtain⟨bT,bU,ct⟩:=ab.tv;obtain⟨W,aW⟩:∃W,W=(ax.setCell ⟨o,1,I⟩ (vN 2)).setCell ⟨o,2,I⟩ (vN (O G)):=⟨_,Q⟩
           have aX:NI ai l L aC av ak ao ap aa aV H D 0 Y Z t (ks.take j) (ks.take j) T W a G:=by
            rw[aW];exact bw.out.2.below ((bw.out.1.setCell (p:=⟨o,1,I⟩) bz.out.1 _).setCell (p:=⟨o,2,I⟩) bz.out.1 _)
           have a5:W.heap[V]? =some (Ob (ae 6 y z A f (J B q C)) 46 (0,0)):=by
            rw[aW];exact(Below.heap_setCell _ ⟨o,2,I⟩ _ _ bx).trans ((Below.heap_setCell _ ⟨o,1,I⟩ _ _ bx).trans aQ)
           have a6:W.heap[o]? =some (Ob #[.string f,vN 2,vN (O G),.bool F] 117 (0,0)):=by
            have R:=heap_setCell_same ax o 1 _ 117 (vN 2) aN;have aF:=heap_setCell_same _ o 2 _ 117 (vN (O G)) R;rw[aW];exact aF
           have eP:l≠o:=aI ab.e.s.mk' aN dC;have eQ:V≠l:=aI aQ ab.e.s.mk' dC;have cW:=ab.e.s.mk'.lt
           have cX:ax.cell? ⟨l,2,I⟩=some (J bT (O G) bU):=by
            rw[ab.e.s.mk'.cell 2];show some a.tv=_;rw[ct]
           have eR:W.cell? ⟨l,2,I⟩=some (J bT (O G) bU):=by
            rw[aX.e.s.mk'.cell 2];show some a.tv=_;rw[ct]
           have dO:=aX.e.s.mk'.lt;have dP:l<E (U W)+1:=oM;have bj:Hid (∀{k:World} {aY:MK},k.heap[V]? =some (Ob (ae 6 y z A f (J B q C)) 46 (0,0))->k.heap[o]? =some (Ob #[.string f,vN 2,vN (O G),.bool F] 117 (0,0))->cF k l aY->(aY.mo=a.mo/\aY.ms=a.ms/\aY.mc=a.mc)->(Ce k V (ae 6 y z A f (J B q C)))/\(∀e,k.cell? ⟨o,e,I⟩=#[.string f,vN 2,vN (O G),.bool F][e]?)/\k.cell? ⟨l,0,I⟩=some (J a.mo (O a.ms) a.mc)):=λ{k aY} R aF a3 a4=>⟨λe=>cell_of_row k _ e _ 46 (0,0) R,λe=>cell_of_row k _ e _ 117 (0,0) aF,by rw[a3.cell 0,<-a4.1,<-a4.2.1,<-a4.2.2];rfl⟩;have KB:Hid (∀{k:World},Below (E (U W)) W k->(Ce k V (ae 6 y z A f (J B q C)))/\(∀e,k.cell? ⟨o,e,I⟩=#[.string f,vN 2,vN (O G),.bool F][e]?)/\k.cell? ⟨l,0,I⟩=some (J a.mo (O a.ms) a.mc)):=λ{k} aq=>bj.out ((aq.block _ (gE a5).1).trans a5) ((aq.block _ (gE a6).1).trans a6) (aX.e.s.mk'.below aq) ⟨Q,Q,Q⟩
           have bV:Hid (∀aG:TypeId,∃af N,(Builtin.append_ #[25,25] aG #[J bT (O G) bU,J (aS (E (U W))) 1 1]).run Tryz.prog ((W.alloc (Ob (js f (O a.ms) y F I 0 0) 93)).drew)=.ok af N/\∃(ar:OA) (au:Nat) (aZ:Nat->Prop) (a7:MK) (a8:VV),af=J ar (O G+1) au/\cF N l a/\(λk:World=>(Ce k V (ae 6 y z A f (J B q C)))/\(∀e,k.cell? ⟨o,e,I⟩=#[.string f,vN 2,vN (O G),.bool F][e]?)/\k.cell? ⟨l,0,I⟩=some (J a.mo (O a.ms) a.mc)) N/\(λk:World=>(Ce k V (ae 6 y z A f (J B q C)))/\(∀e,k.cell? ⟨o,e,I⟩=#[.string f,vN 2,vN (O G),.bool F][e]?)/\k.cell? ⟨l,0,I⟩=some (J a.mo (O a.ms) a.mc)) (N.setCell ⟨l,2,I⟩ (J ar (O G+1) au))/\NI ai l L aC av ak ao ap aa aZ H D 0 Y Z t (ks.take j++[(ae 6 y z A f (J B q C)).toList]) (ks.take j) T (N.setCell ⟨l,2,I⟩ (J ar (O G+1) au)) a7 a8/\(N.setCell ⟨l,2,I⟩ (J ar (O G+1) au)).heap[V]? =some (Ob (ae 6 y z A f (J B q C)) 46 (0,0))/\(N.setCell ⟨l,2,I⟩ (J ar (O G+1) au)).heap[o]? =some (Ob #[.string f,vN 2,vN (O G),.bool F] 117 (0,0))/\rW (O a7.ds) (O a8) (T+((ks.take j++[(ae 6 y z A f (J B q C)).toList]).map bG).sum) ⟨f,2,O G,F⟩):=λaG=>by
            have bk:=(Below.refl (E (U W)) W).drew;have bD:=aX.below bk;have bW:=(bk.block _ (gE a5).1).trans a5;have bX:=(bk.block _ (gE a6).1).trans a6;obtain⟨af,N,bl,bZ,b0,aa,bm,bn,b1,-,b2,-,aO⟩:=bD.sy (x:=(ae 6 y z A f (J B q C)).toList) Q Q ct f (O a.ms) y F cV aG Q;have cY:=fA b1 bW dC;have c0:=fA b1 bX dC;have b3:=fA b2 bW dC;have b4:=fA b2 bX dC;refine⟨af,N,bl,bZ,b0,aa,_,_,bm,bn,bj.out cY c0 bn ⟨Q,Q,Q⟩,bj.out b3 b4 aO.e.s.mk' ⟨Q,Q,Q⟩,aO,b3,b4,?_⟩;refine⟨⟨Int.natCast_nonneg _,λK=>absurd (show(2:Int)=0 from K) dC,λ_=>?_⟩,λK=>absurd (show(2:Int)=3 from K) dC⟩;show((O G:Nat):Int)<((O (G++[_]):Nat):Int);rw[List.length_append];simp only[List.length_cons,List.length_nil];omega
           clear aX;go_upto_region 20 with fail
           rw[<-aW];clear aW bP bA cr cR bQ cX cW aQ aN ab;refine wp_region_noPanic ?_;refine wp_region_held_drew (S:=(λk=>(Ce k V (ae 6 y z A f (J B q C)))/\(∀e,k.cell? ⟨o,e,I⟩=#[.string f,vN 2,vN (O G),.bool F][e]?)/\k.cell? ⟨l,0,I⟩=some (J a.mo (O a.ms) a.mc))) (by as_aux_lemma=>kernel_rfl) ?_ (λhHeld=>?_)
           ·(try dsimp only)
            (first|assumption|exact KB.out ((Below.refl _ _).drew)|exact KB.out ((al1 _ _).1.drew)|exact KS10|exact KS11)
           refine aK 0 ?_;refine aK 1 ?_;refine aK 2 ?_;refine aK 3 ?_;refine aK 4 ?_;refine aK 6 ?_;refine aK 7 ?_;refine aK 8 ?_;refine aK 9 ?_;refine aK 10 ?_;refine aK 11 ?_;refine aK 12 ?_;refine aK 13 ?_;refine aK 14 ?_;refine aK 15 ?_;refine aK 16 ?_;refine aK 17 ?_;refine aK 18 ?_;apply ly
           case h=>
            intro TL;refine pU 5 19 (λP hK=>?_) (λP hK=>?_)
            ·go_simp;refine dV hK ?_;clear hK P;intro a';refine eJ 19 (λP hK=>?_);go_simp;refine dV hK ?_;exact TL trivial
            ·go_simp;refine dV hK ?_;clear hK P;intro a';refine eJ 5 (λP hK=>?_);go_simp;refine dV hK ?_;exact TL trivial
           case p=>
            clear hHeld;intro hHeld;refine eJ 20 (λP hK=>?_)
            (refine bf 25 (v:=J bT (O G) bU) (xv:=J (aS (E (U W))) 1 1) rQ rQ rQ rQ (bV.out _) ?_;rintro af dR ⟨ar,au,aZ,a7,a8,rfl,a0,KS10,KS11,aO,c2,c3,c4⟩;have dS:=a0.cell;have dT:=a0.fz;have dU:=a0.lt)
            refine dV hK ?_;clear hK P hHeld;intro hHeld;refine aK 21 ?_;refine aK 22 ?_;refine aK 23 ?_;refine eJ 24 (λP hK=>?_);go_simp;refine dV hK ?_;clear hK P hHeld;intro hHeld;refine wpAnyH_done (by as_aux_lemma=>kernel_rfl) ?_ _;refine NoPanic.normal ?_;go_wp2_with fail;go_meet;exact⟨ac,a7,a8,aZ,⟨f,2,O G,F⟩,Q,aJ,cT.out,aO,c2,c3,Q,Q,c4,λK=>absurd K dC,λ_=>rfl,λK=>absurd K dC⟩
          ·have fI:(u==6)=false:=sU bR;by_cases c5:u=8
           ·subst c5
            as_aux_lemma=>
             have eS:Hid (Hid ((8:Int)=3\/(8:Int)=6\/(8:Int)=8)):=.inr (.inr Q);have aJ:Hid (ac+1=T+((ks.take (j+1)).map bG).sum):=a2.out.2.2;have eT:ac+1<=100000:=oI aJ.out a2.out.2.1
             have eU:Hid (∀aT v:Value,NI ai l L aC av ak ao ap aa aV H D 0 Y Z t (ks.take j++[(ae 8 y z A f (J B q C)).toList]) (ks.take j) T ((ax.setCell ⟨o,1,I⟩ aT).setCell ⟨o,2,I⟩ v) a G):=λaT v=>by
              have aq:Below (E (U wr)) wr ((ax.setCell ⟨o,1,I⟩ aT).setCell ⟨o,2,I⟩ v):=(bw.out.1.setCell (p:=⟨o,1,I⟩) bz.out.1 aT).setCell (p:=⟨o,2,I⟩) bz.out.1 v;exact(bw.out.2.below aq).other Q Q
             have eV:Hid (((ax.setCell ⟨o,1,I⟩ (vN 3)).setCell ⟨o,2,I⟩ (vN ac)).heap[o]? =some (Ob #[.string f,vN 3,vN ac,.bool F] 117 (0,0))):=by
              have R:=heap_setCell_same ax o 1 _ 117 (vN 3) aN;have aF:=heap_setCell_same _ o 2 _ 117 (vN ac) R;exact aF
             go_wp2_with fail;go_meet;refine⟨ac+1,a,G,aV,⟨f,3,ac,F⟩,by go_num,aJ,eS.out,eU.out _ _,?_,eV.out,Q,Q,?_,λK=>absurd K dC,λK=>absurd K dC,λ_=>rfl⟩
             ·exact(Below.heap_setCell _ ⟨o,2,I⟩ _ _ bx).trans ((Below.heap_setCell _ ⟨o,1,I⟩ _ _ bx).trans aQ)
             ·refine⟨⟨Int.natCast_nonneg ac,λK=>absurd (show(3:Int)=0 from K) dC,λK=>absurd (show(3:Int)=2 from K) dC⟩,λ_=>?_⟩;have R:=a2.out.1;have aF:=aJ.out;rw[R] at aF;show(ac:Int)<_;omega
           ·have fJ:(u==8)=false:=sU c5;have eW:¬(u=3\/u=6\/u=8):=oM
            have dW:Hid (NI ai l L aC av ak ao ap aa aV H D 0 Y Z t (ks.take (j+1)) (ks.take (j+1)) T ax a G):=by
             rw[a2.out.1];refine(ab.other ?_ ?_).skip eW
             ·show(if u=3 then 1 else 0)=0;rw[if_neg a3]
             ·show(if u=6 then 1 else 0)=0;rw[if_neg bR]
            by_cases bS:u=7
            ·subst bS;have fK:2<=q/\q<=20000:=⟨dJ.out.2 Q,dJ.out.1⟩;have aJ:Hid (ac+(q - 2)=T+((ks.take (j+1)).map bG).sum):=a2.out.2.2;have eT:ac+(q - 2)<=100000:=oI aJ.out a2.out.2.1;go_wp2_with fail;go_roundg (O ks - (j+1))
             case measure=>rw[cP.out];omega
             case rel=>exact⟨j+1,ac+(q - 2),Y,Z,t,a,G,aV,Q,by go_num,by go_num,aJ,cq,dW.out⟩
            ·have fL:(u==7)=false:=sU bS
             have eX:bG (ae u y z A f (J B q C)).toList=0:=by
              show(if u=8 then 1 else if u=7 then _ else 0)=0;rw[if_neg c5,if_neg bS]
             have aJ:Hid (ac=T+((ks.take (j+1)).map bG).sum):=by
              have:=a2.out.2.2;rw[eX] at this;exact this
             go_wp2_with fail;go_roundg (O ks - (j+1))
             case measure=>rw[cP.out];omega
             case rel=>exact⟨j+1,ac,Y,Z,t,a,G,aV,Q,by go_num,Q,aJ,cq,dW.out⟩
        case rest=>
         clear bP bA cr cR bQ aQ aN ab;obtain⟨cs,bB,bi,cS,r,rfl,aJ,eY,b5,dX,dY,dZ⟩:=hcut;obtain⟨fM,ba,b6,fN⟩:=r;have d0:=dZ.out;simp only at d0;obtain⟨d1,d2,d3,d4⟩:=d0;have eZ:=d1.symm;have e0:=d2.symm;subst eZ;subst e0;have d5:Hid (rW (O bB.ds) (O bi) (T+((ks.take j++[(ae u y z A f (J B q C)).toList]).map bG).sum) ⟨f,ba,b6,F⟩/\(u=3->ba=0)/\(u=6->ba=2)/\(u=8->ba=3)):=⟨d3,d4⟩;clear dZ d3 d4 d1 d2
         have d6:O t<=20000:=by
          have R:=b5.len;rw[List.length_take] at R;omega
         have bE:=λe=>cell_of_row wc _ e _ 115 (0,0) b5.e.ik;have bF:L<E (U wc):=(gE b5.e.ik).1;go_wp2_with fail;clear bE bF;go_loopg [12,148] (O t) (λbL _ aT aB=>∃(i:Nat) (bb:MK),bL=O t - i/\aT=vN i/\i<=O t/\NI ai l L aC av ak ao ap aa cS H D 0 Y Z t (ks.take j++[(ae u y z A f (J B q C)).toList]) (ks.take j) T aB bb bi/\aB.heap[V]? =some (Ob (ae u y z A f (J B q C)) 46 (0,0))/\aB.heap[o]? =some (Ob #[.string f,vN ba,vN b6,.bool F] 117 (0,0))/\Hid (O bb.ds=O bB.ds)/\Hid (bb.fk=0->∀x∈t.take i,x.name.toList≠f.toList))
         case atStart=>exact⟨0,bB,Q,Q,zL _,b5,dX,dY,Q,λ_ x ah=>by simp at ah⟩
         case round=>
          clear b5 dX dY;obtain⟨i,bb,a9,rfl,dp,cu,c6,cv,c7,d7⟩:=hrel;have d8:Hid (gk=O t - i):=a9;clear a9;have bP:=λe=>cell_of_row wr _ e _ 46 (0,0) c6;have bA:V<E (U wr):=(gE c6).1;have e1:V<E (U wr)+1:=oM;have cr:=λe=>cell_of_row wr _ e _ 117 (0,0) cv;have bQ:o<E (U wr):=(gE cv).1;have e2:o<E (U wr)+1:=oM;by_cases c8:i<O t
          ·have e3:(i:Int)<(O t:Int):=oM;obtain⟨b7,c9⟩:∃b7,t[i]? =some b7:=⟨_,gG c8⟩;obtain⟨b8,e4,d9,fO,-,b9⟩:=aL cu.e.row sQ (λx ah=>by obtain⟨fP,_,rfl⟩:=List.mem_map.1 ah;rfl) (i:=i) (x:=b7.c) (by rw[List.getElem?_map,c9];rfl);obtain⟨rfl,rfl⟩:Y=some ⟨b8,0,I⟩/\Z=e4:=sU d9
           have e5:Hid (t.take (i+1)=t.take i++[b7]):=by
            show _=_;rw[List.take_add_one,c9];rfl
           obtain⟨c',d',ea,eb⟩:=b7;have fQ:wr.cell? ⟨b8,i*4,I⟩=some (.string c'):=b9 0 dC;have fR:wr.cell? ⟨b8,i*4+1,I⟩=some (vN d'):=b9 1 dC;have fS:wr.cell? ⟨b8,i*4+2,I⟩=some (vN ea):=b9 2 dC;have fT:wr.cell? ⟨b8,i*4+3,I⟩=some (.bool eb):=b9 3 dC;obtain⟨cw,-⟩:=al1 wr (Ob #[.string c',vN d',vN ea,.bool eb] 117);have b':=cu.below cw;have cx:=(cw.block V bA).trans c6;have cy:=(cw.block o bQ).trans cv;clear b9 d9 c9 cw
           cases e6:(c'.toList==f.toList)
           ·have e7:Hid (bb.fk=0->∀x∈t.take (i+1),x.name.toList≠f.toList):=λca x ah=>by
             rw[e5.out] at ah;rcases List.mem_append.1 ah with ah|ah
             ·exact d7.out ca x ah
             ·rw[List.mem_singleton.1 ah];simpa using e6
            go_wp2_with fail;go_roundg (O t - (i+1))
            case measure=>rw[d8.out];omega
            case rel=>exact⟨i+1,bb,Q,by go_num,c8,b',cx,cy,c7,e7⟩
           ·go_wp2_with (go_at_call 45;refine(bY b'.e.s.mk' _ _).mono ?_;rintro fU fV ⟨⟨e8,fW,rfl,ec,da,e9⟩,e'⟩;have fa:=b'.bt da ec e9;have fb:=(da.block V (gE cx).1 (aI cx b'.e.s.mk' dC)).trans cx;have fc:=(da.block o (gE cy).1 (aI cy b'.e.s.mk' dC)).trans cy)
            have fd:e8≠0:=by
             obtain⟨fX,fY,fZ,fe⟩:=e' dC;have:=cF.inj ec fe;simp at this;omega
            go_roundg (O t - (i+1))
            case measure=>rw[d8.out];omega
            case rel=>exact⟨i+1,_,Q,by go_num,c8,fa,fb,fc,c7,λca=>absurd ca fd⟩
          ·have e3:¬(i:Int)<(O t:Int):=oM;have ff:Hid (t.take i=t):=List.take_of_length_le oM;have db:=cu.e.ik;have bE:=λe=>cell_of_row wr _ e _ 115 (0,0) db;have bF:L<E (U wr):=(gE db).1;have f0:L≠o:=aI db cv dC
           have fg:Hid (∀aG:TypeId,∃af N,(Builtin.append_ #[113,113] aG #[J Y (O t) Z,J (aS (E (U wr))) 1 1]).run Tryz.prog (wr.alloc (Ob #[.string f,vN ba,vN b6,.bool F] 117))=.ok af N/\∃bo bp cb,af=J bo (O t+1) bp/\N.heap[L]? =some (Ob #[.string D,J Y (O t) Z,vN 0] 115 (0,0))/\NI ai l L aC av ak ao ap aa cb H D 0 bo bp (t++[(⟨f,ba,b6,F⟩:Nm)]) (ks.take (j+1)) (ks.take (j+1)) T (N.setCell ⟨L,1,I⟩ (J bo (O t+1) bp)) bb bi):=λaG=>by
            obtain⟨af,N,bl,bo,bp,cb,bm,bh,-,ad⟩:=cu.push (c:=u) (p:=y) (n:=z) (m:=A) (s:=f) (kv:=J B q C) (r:=⟨f,ba,b6,F⟩) (by rw[c7.out];exact d5.out.1) Q d5.out.2 (λca x ah=>by have ed:=d7.out ca;rw[ff.out] at ed;exact ed x ah) eY.out d6 aG Q;refine⟨af,N,bl,bo,bp,cb,bm,bh,?_⟩;rw[a2.out.1];exact ad
           clear bP bA e1 e2;go_wp2_with (at_builtin;refine bC 113 (v:=J Y (O t) Z) (xv:=J (aS (E (U wr))) 1 1) rQ rQ rQ rQ (fg.out _) ?_;rintro af dc ⟨bo,bp,cb,rfl,dd,ad⟩;clear bE bF;have bE:=λe=>cell_of_row dc _ e _ 115 (0,0) dd;have ee:=λe=>frozen_of_row dc L e _ 115 dd;have bF:L<E (U dc):=(gE dd).1)
           go_roundg (O ks - (j+1))
           case measure=>rw[cP.out];omega
           case rel=>exact⟨j+1,cs,bo,bp,_,bb,bi,cb,Q,by go_num,Q,aJ,cq,ad⟩
      ·as_aux_lemma=>
        have eG:¬(j:Int)<(O ks:Int):=oM;have ef:Hid (ks.take j=ks):=List.take_of_length_le oM
        have d6:O t<=20000:=by
         have R:=aw.len;rw[List.length_take] at R;omega
        have cU:O a.ms<=19999:=by
         have R:=bv.out.ml;rw[List.length_take] at R;rw[aw.ms.1];omega
        have fh:Hid (ac=((kss.take (X+1)).flatten.map bG).sum):=by
         have R:=dH.out;rw[ef.out,ch.out] at R;show ac=_;rw[cj.out.2.1,List.flatten_append,List.map_append,List.sum_append,R];simp
        have ad:=aw;rw[ef.out] at ad;have bq:=ad.oZ (O t);have cz:=aw.e.ik;have bE:=λe=>cell_of_row wr _ e _ 115 (0,0) cz;have ee:=λe=>frozen_of_row wr L e _ 115 cz;have bF:L<E (U wr):=(gE cz).1;obtain⟨aP,de⟩:∃aP,aP=wr.setCell ⟨L,2,I⟩ (vN (O t)):=⟨_,Q⟩;rw[<-de] at bq;have cc:aP.heap[L]? =some (Ob #[.string D,J Y (O t) Z,vN (O t)] 115 (0,0)):=bq.e.ik;have fi:L<E (U aP):=(gE cc).1;have fj:L≠l:=aI cc bq.e.s.mk' dC
        have bV:Hid (∀aG:TypeId,∃af N,(Builtin.append_ #[23,23] aG #[J a.mo (O a.ms) a.mc,J (aS (E (U aP))) 1 1]).run Tryz.prog ((aP.alloc (Ob #[.string D,J Y (O t) Z,vN (O t)] 115)).drew)=.ok af N/\∃ar au aZ,af=J ar (O a.ms+1) au/\cF N l a/\N.heap[L]? =some (Ob #[.string D,J Y (O t) Z,vN (O t)] 115 (0,0))/\(N.setCell ⟨l,0,I⟩ (J ar (O a.ms+1) au)).heap[L]? =some (Ob #[.string D,J Y (O t) Z,vN (O t)] 115 (0,0))/\NO a1 l M aR ak ao ap aD H (kss.take (X+1)) (N.setCell ⟨l,0,I⟩ (J ar (O a.ms+1) au)) {a with mo:=ar,mc:=au,ms:=a.ms++[(⟨D,Y,Z,t,O t⟩:Md)]} G aZ):=λaG=>by
         have bD:=bq.below ((Below.refl (E (U aP)) aP).drew);rw[ch.out] at bD;obtain⟨af,N,bl,bZ,b0,aa,bm,bn,bh,aO⟩:=NI.done bv.out bD cU oM aG Q;have cA:=bh.trans cc;refine⟨af,N,bl,bZ,b0,aa,bm,bn,cA,(Below.heap_setCell _ ⟨l,0,I⟩ _ _ fj).trans cA,?_⟩;rw[cj.out.2.1];exact aO
        have df:Hid (∀{k:World},k.heap[L]? =some (Ob #[.string D,J Y (O t) Z,vN (O t)] 115 (0,0))->(∀e,k.cell? ⟨L,e,I⟩=#[.string D,J Y (O t) Z,vN (O t)][e]?)):=λ{k} R=>λe=>cell_of_row k _ e _ 115 (0,0) R;have KB:Hid (∀{k:World},Below (E (U aP)) aP k->(∀e,k.cell? ⟨L,e,I⟩=#[.string D,J Y (O t) Z,vN (O t)][e]?)):=λ{k} aq=>df.out ((aq.block _ fi).trans cc)
        have f1:aP.cell? ⟨l,0,I⟩=some (J a.mo (O a.ms) a.mc):=by
         rw[bq.e.s.mk'.cell 0];rfl
        have dO:=bq.e.s.mk'.lt;have dP:l<E (U aP)+1:=oM;clear bq ad aw cc cz;go_upto_region 36 with fail
        rw[<-de];clear de bE ee bF;refine wp_region_noPanic ?_;refine wp_region_held_drew (S:=(λk=>(∀e,k.cell? ⟨L,e,I⟩=#[.string D,J Y (O t) Z,vN (O t)][e]?))) (by as_aux_lemma=>kernel_rfl) ?_ (λhHeld=>?_)
        ·(try dsimp only)
         (first|assumption|exact KB.out ((Below.refl _ _).drew)|exact KB.out ((al1 _ _).1.drew)|exact KS10|exact KS11)
        refine aK 0 ?_;refine aK 1 ?_;refine aK 2 ?_;refine aK 3 ?_;refine aK 4 ?_;refine aK 6 ?_;apply ly
        case h=>
         intro TL;refine pU 5 7 (λP hK=>?_) (λP hK=>?_)
         ·go_simp;refine dV hK ?_;clear hK P;intro a';refine eJ 7 (λP hK=>?_);go_simp;refine dV hK ?_;exact TL trivial
         ·go_simp;refine dV hK ?_;clear hK P;intro a';refine eJ 5 (λP hK=>?_);go_simp;refine dV hK ?_;exact TL trivial
        case p=>
         clear hHeld;intro hHeld;refine eJ 8 (λP hK=>?_)
         (refine bf 23 (v:=J a.mo (O a.ms) a.mc) (xv:=J (aS (E (U aP))) 1 1) rQ rQ rQ rQ (bV.out _) ?_;rintro af dR ⟨ar,au,aZ,rfl,a0,cA,fk,aO⟩;have KS10:=df.out cA;have KS11:=df.out fk;have dS:=a0.cell;have dT:=a0.fz;have dU:=a0.lt)
         refine dV hK ?_;clear hK P hHeld;intro hHeld;refine aK 9 ?_;refine aK 10 ?_;refine aK 11 ?_;refine eJ 12 (λP hK=>?_);go_simp;refine dV hK ?_;clear hK P hHeld;intro hHeld;refine wpAnyH_done (by as_aux_lemma=>kernel_rfl) ?_ _;refine NoPanic.normal ?_;go_wp2_with fail;go_roundg (O mks - (X+1))
         case measure=>rw[eu.out];omega
         case rel=>exact⟨X+1,ac,_,G,aZ,Q,by go_num,Q,fh,ev,aO⟩
  ·have ew:¬(X:Int)<(O mks:Int):=oM;have fl:X=O mks:=oM;have fm:Hid (kss.take X=kss):=List.take_of_length_le oM;clear fl;go_wp2_with fail;go_end0;have ad:=aw;rw[fm.out] at ad;exact⟨bu,av,aa,Q,⟨ad.s,(bc.out ad.kx).1,ad.m1,λb cg aq=>ad.m2 b oM aq,ad.ml,ad.dl,ad.tl,ad.nz,ad.tv,ad.rest,ad.own,ad.q,ad.ok,ad.ln,ad.dj⟩⟩
end Go.Proofs.YtcnnibahjmekdaaGreat
