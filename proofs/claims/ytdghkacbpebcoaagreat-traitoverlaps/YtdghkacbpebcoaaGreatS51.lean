import Derived.Test.YtdghkacbpebcoaaGreatS46
import Derived.Test.YtdghkacbpebcoaaGreatS48
namespace Go.Proofs.YtdghkacbpebcoaaGreat
open Go.RowKit
open Value renaming slice→J
open List renaming length→O
open Option renaming none→I
open World renaming heap→U
open _root_.Array renaming size→E
open Obj renaming cells→Ob
set_option linter.all false
set_option maxRecDepth 100000
set_option maxHeartbeats 0
theorem j3 (c:Int) (l:VV):(l.map (cP c)).sum<=O l:=by
 induction l with
 |nil=>simp
 |cons a l b=>
  have d:cP c a<=1:=by
   unfold cP;split
   ·split<;>omega
   ·omega
  simp only[List.map_cons,List.sum_cons,List.length_cons];omega
theorem uW {h:Nat} {w:World} {l:Nat} {M:MK} {aR:VV} {ak al ao:Nat} {aD:Nat->Prop} {H:Nat} (hS:MS w l M aR [] [] ak al ao aD H) (bq:M.ms=[]) {df:OA} {dg:Nat} (eg:M.tv=J df (O aR) dg) {B0:Nat} (cB:∀b,aD b->B0<=b) (dh:B0<=E (U w)) {pos n m:Int} {name:ByteArray} {ko:OA} {kc:Nat} {mks:VV} (cc:cU B0 w (J ko (O mks) kc) mks) (di:∀i,i<O mks->∃g,ko=some ⟨g,0,I⟩) {kss:List VV} (fm:O kss=O mks) (dj:∀(i:Nat) (ks:VV),kss[i]? =some ks->∃ay az aA D ag c1,mks[i]? =some (ae 1 ay az aA D (J ag (O ks) c1)).toList/\cU B0 w (J ag (O ks) c1) ks/\(∀i,i<O ks->∃g,ag=some ⟨g,0,I⟩)/\∀x∈ks,isNode (λb=>b<B0) True (h+1) w x) (eh:(kss.flatten.map bB).sum<=100000) (ei:O kss.flatten<=100000) (dk:O M.ds<=100/\O aR<=100):
 Calls Tryz.prog 22 #[.pointer (aS l),.agg (ae 0 pos n m name (J ko (O mks) kc))] w (uf w l M aR ak al ao aD H kss):=by
 have fn:B0<=l:=cB l hS.dG;have fo:=cc.len.2;obtain⟨cd,dl⟩:=al1 w (Ob (ae 0 pos n m name (J ko (O mks) kc)) 48)
 have ej:Hid (∀(i:Nat) (ks:VV),kss[i]? =some ks->∃ay az aA D ag c1 g,ko=some ⟨g,0,I⟩/\g<B0/\O ks<=20000/\(∀aj:World,aq (λb=>b<B0) w aj->∀j,j<11->aj.cell? ⟨g,i*11+j,I⟩=(ae 1 ay az aA D (J ag (O ks) c1)).toList[j]?)/\∀(j:Nat) (x:List Value),ks[j]? =some x->∃aH u y z A f B q C,ag=some ⟨aH,0,I⟩/\aH<B0/\x=(ae u y z A f (J B q C)).toList/\(q<=20000/\(u=7->2<=q))/\∀aj:World,aq (λb=>b<B0) w aj->∀e,e<11->aj.cell? ⟨aH,j*11+e,I⟩=x[e]?):=by
  intro i ks br;obtain⟨ay,az,aA,D,ag,c1,aK,cC,ek,dm⟩:=dj i ks br;have dn:=(gS aK).1;obtain⟨g,K⟩:=di i dn
  have el:g<B0:=by
   obtain⟨bF,e,aE,dp,-⟩:=cc.nth aK;rw[K] at aE;simp at aE;omega
  refine⟨ay,az,aA,D,ag,c1,g,K,el,cC.len.2,λaj cD j cE=>?_,λj x ah=>?_⟩
  ·obtain⟨bF,e,aE,-,cF⟩:=(cc.frame cD dh).nth aK;rw[K] at aE;obtain⟨rfl,rfl⟩:g=bF/\e=0:=by simp at aE;exact⟨aE.1,aE.2.symm⟩
   have:=cF j cE;rw[Nat.zero_add] at this;exact this
  ·obtain⟨u,y,z,A,f,B,q,C,rfl,-⟩:=isNode.cells (dm x (mG ah));obtain⟨aH,bH⟩:=ek j (gS ah).1
   have dq:aH<B0:=by
    obtain⟨bF,e,aE,dp,-⟩:=cC.nth ah;rw[bH] at aE;simp at aE;omega
   have ce:q<=20000/\(u=7->2<=q):=by
    obtain⟨fp,rfl,em,-,en,-⟩:=(dm _ (mG ah)).kids;refine⟨em.len.2,λeo=>?_⟩;obtain⟨-,fq,fr,ep,-,-⟩:=en.impl eo;have:=congrArg List.length ep;simp at this;omega
   refine⟨aH,u,y,z,A,f,B,q,C,bH,dq,Q,ce,λaj cD e eq=>?_⟩;obtain⟨bF,er,aE,-,cF⟩:=(cC.frame cD dh).nth ah;rw[bH] at aE;obtain⟨rfl,rfl⟩:aH=bF/\er=0:=by simp at aE;exact⟨aE.1,aE.2.symm⟩
   have:=cF e eq;rw[Nat.zero_add] at this;exact this
 have dr:Hid ((∀b,aD b->B0<=b)/\(∀b,aD b->b<E (U w))):=⟨cB,hS.mlt⟩;have cG:NO (w.alloc (Ob (ae 0 pos n m name (J ko (O mks) kc)) 48)) l M aR ak al ao aD H [] (w.alloc (Ob (ae 0 pos n m name (J ko (O mks) kc)) 48)) M aR aD:=⟨hS.below cd,KX.refl _ _ _,λ_ h=>h,λ_ _ h=>h,by rw[bq];rfl,sQ,sQ,λj d cE es=>oH (gS es).1,⟨df,dg,eg⟩,⟨Q,Q,Q,Q,Q⟩,λm aK=>by rw[bq] at aK;simp at aK,λm aK=>by rw[bq] at aK;simp at aK,λ_ j et ks bI=>by rw[bq] at bI;simp at bI,λj et ks bI=>by rw[bq] at bI;simp at bI,λi j fs b ds=>by rw[bq] at ds;simp at ds⟩;obtain⟨a0,bs⟩:∃a0,a0=w.alloc (Ob (ae 0 pos n m name (J ko (O mks) kc)) 48):=⟨_,Q⟩;have ft:E (U a0)=E (U w)+1:=by rw[bs];simp
 have bb:Hid (∀{aj:World},KX aD (E (U a0)) a0 aj->KX aD (E (U w)) w aj/\aq (λb=>b<B0) w aj/\aj.heap[E (U w)]? =some (Ob (ae 0 pos n m name (J ko (O mks) kc)) 48 (0,0))):=λ{aj} bJ=>by
  rw[bs] at bJ;have dt:KX aD (E (U w)) w aj:=(KX.al cd).trans (bJ.mono (λ_ _ h=>h) sQ);refine⟨dt,λb ap cf=>dt.block b cf (λaK=>oH (dr.out.1 b aK)),(bJ.block _ sQ (λaK=>?_)).trans dl⟩;have:=dr.out.2 _ aK;omega
 have fu:Hid (Below (E (U w)) w a0):=by rw[bs];exact cd
 rw[<-bs] at cG
 have cH:Hid (∀i,((kss.take i).flatten.map bB).sum<=100000/\O (kss.take i).flatten<=100000):=λi=>by
  have K:kss.flatten=(kss.take i).flatten++(kss.drop i).flatten:=by rw[<-List.flatten_append,List.take_append_drop]
  have R:=eh;have aF:=ei;rw[K,List.map_append,List.sum_append] at R;rw[K,List.length_append] at aF;exact⟨oM,oM⟩
 clear hS cB cc di dj cd dl;go_enter Tryz.func22,Tryz.ntmps22
 go_wp2_with fail;rw[<-bs];clear bs;go_loopg [4,6,7,9,10,12,56,96,130,137,16] (O mks) (λbK cI _ _ _ _ _ _ _ _ _ aT wr=>∃(X T:Nat) (bt:MK) (av:VV) (aa:Nat->Prop),bK=O mks - X/\aT=vN X/\cI=vN (T:Int)/\Hid (T=((kss.take X).flatten.map bB).sum)/\X<=O mks/\NO a0 l M aR ak al ao aD H (kss.take X) wr bt av aa)
 case atStart=>exact⟨0,0,M,aR,aD,Q,Q,Q,Q,zL _,cG⟩
 case round=>
  clear cG;obtain⟨X,T,bt,av,aa,a8,rfl,rfl,cg,fv,aw⟩:=hrel;have eu:Hid (gk=O mks - X):=a8;clear a8;have du:=λe=>cell_of_row wr _ e _ 48 (0,0) (bb.out aw.kx).2.2;have dv:E (U w)<E (U wr):=(gE (bb.out aw.kx).2.2).1;by_cases ev:X<O mks
  ·have ew:(X:Int)<(O mks:Int):=oM;obtain⟨ks,br⟩:∃ks,kss[X]? =some ks:=⟨_,gG oM⟩;obtain⟨ay,az,aA,D,ag,c1,g,K,dp,fx,dw,dx⟩:=ej.out X ks br;obtain rfl:ko=some ⟨g,0,I⟩:=K;have bM:=dw wr (bb.out aw.kx).2.1;have ci:g<E (U wr):=oH (bb.out aw.kx).1.size;have dy:=qh bM;have cj:Hid (kss[X]? =some ks/\kss.take (X+1)=kss.take X++[ks]/\∀(j:Nat) (x:List Value),ks[j]? =some x->∃aH u y z A f B q C,ag=some ⟨aH,0,I⟩/\aH<B0/\x=(ae u y z A f (J B q C)).toList/\(q<=20000/\(u=7->2<=q))/\∀aj:World,aq (λb=>b<B0) w aj->∀e,e<11->aj.cell? ⟨aH,j*11+e,I⟩=x[e]?):=⟨br,by rw[List.take_add_one,br];rfl,dx⟩;have bc:=aw.below (al1 wr (Ob (ae 1 ay az aA D (J ag (O ks) c1)) 48)).1;clear bM dw dx br;go_upto_region 5 with fail
   go_cut [32] (λex aB=>∃cJ:Bool,ex=.bool cJ/\Below (E (U (wr.alloc (Ob (ae 1 ay az aA D (J ag (O ks) c1)) 48)))) (wr.alloc (Ob (ae 1 ay az aA D (J ag (O ks) c1)) 48)) aB)
   case first=>
    clear du dv dy ci;have ck:Hid (∀{k:World},Below (E (U (wr.alloc (Ob (ae 1 ay az aA D (J ag (O ks) c1)) 48)))) (wr.alloc (Ob (ae 1 ay az aA D (J ag (O ks) c1)) 48)) k->(Ce k l (jM bt))/\(Ce k (E (U wr)) (ae 1 ay az aA D (J ag (O ks) c1)))):=λ{k} ap=>⟨(bc.s.mk'.below ap).cell,λe=>cell_of_row k _ e _ 48 (0,0) ((ap.block _ sQ).trans (al1 wr _).2)⟩
    as_aux_lemma=>
     refine wp_region_noPanic ?_;refine wp_region_held_drew (S:=(λk=>(Ce k l (jM bt))/\(Ce k (E (U wr)) (ae 1 ay az aA D (J ag (O ks) c1))))) (by as_aux_lemma=>kernel_rfl) ?_ (λhHeld=>?_)
     ·(try dsimp only)
      (first|assumption|exact ck.out ((Below.refl _ _).drew)|exact ck.out cm)
     refine aM 0 ?_;refine aM 1 ?_;refine aM 2 ?_;refine aM 3 ?_;refine aM 4 ?_;refine aM 5 ?_;refine eA 6 (λP hK=>?_);go_simp
     (go_at_call 38;refine(kP (bc.s.pi.cE.below ((Below.refl _ _).drew)) _ _ _ _ _ _ _).mono ?_;rintro ey fy ⟨r,rfl,fz,ez⟩;have cm:=((Below.refl (E (U (wr.alloc (Ob (ae 1 ay az aA D (J ag (O ks) c1)) 48)))) (wr.alloc (Ob (ae 1 ay az aA D (J ag (O ks) c1)) 48))).drew).trans (ez.mono (lR _)))
     try go_wp2_with fail
     refine hK.out _ _ ?_ (λa9=>?_)
     ·(try dsimp only)
      (first|assumption|exact ck.out ((Below.refl _ _).drew)|exact ck.out cm)
     clear hK P hHeld;have hHeld:=a9;clear a9;try simp only[Act.put,List.setIfInBounds_toArray,List.set_cons_zero,List.set_cons_succ]
     by_cases dz:(0:Int)<=r
     ·have eB:decide (0<=r)=true:=sU dz;refine aM 7 ?_;refine aM 8 ?_;refine wpAnyH_take (i:=9) (v:=undef) (by simp only[List.getElem?_toArray,List.getElem?_cons_succ,List.getElem?_cons_zero];rfl) kQ kQ kQ (λ_ _ _ h=>h) (Or.inr ⟨rQ,Q⟩) (by assumption) ?_;try simp only[Act.put,List.setIfInBounds_toArray,List.set_cons_zero,List.set_cons_succ]
      refine wpAnyH_take (i:=10) (v:=undef) (by simp only[List.getElem?_toArray,List.getElem?_cons_succ,List.getElem?_cons_zero];rfl) kQ kQ kQ (λ_ _ _ h=>h) (Or.inr ⟨rQ,Q⟩) (by assumption) ?_;try simp only[Act.put,List.setIfInBounds_toArray,List.set_cons_zero,List.set_cons_succ]
      refine wpAnyH_take (i:=11) (v:=undef) (by simp only[List.getElem?_toArray,List.getElem?_cons_succ,List.getElem?_cons_zero];rfl) kQ kQ kQ (λ_ _ _ h=>h) (Or.inr ⟨rQ,Q⟩) (by assumption) ?_;try simp only[Act.put,List.setIfInBounds_toArray,List.set_cons_zero,List.set_cons_succ]
      refine aM 12 ?_;refine wpAnyH_done (by as_aux_lemma=>kernel_rfl) ?_ _;refine NoPanic.normal ?_;go_wp2_with fail;go_meet;exact⟨_,Q,cm⟩
     ·have eB:decide (0<=r)=false:=sU dz;refine aM 7 ?_;refine aM 8 ?_;refine aM 9 ?_;refine aM 10 ?_;refine aM 11 ?_;refine aM 12 ?_;refine wpAnyH_done (by as_aux_lemma=>kernel_rfl) ?_ _;refine NoPanic.normal ?_;go_wp2_with fail;go_meet;exact⟨_,Q,cm⟩
   case rest=>
    clear du dv dy ci;obtain⟨cJ,rfl,cK⟩:=hcut;have ab:=bc.below cK;have gj:wc.heap[E (U wr)]? =some (Ob (ae 1 ay az aA D (J ag (O ks) c1)) 48 (0,0)):=(cK.block _ sQ).trans (al1 wr _).2;obtain⟨bN,dA⟩:∃bN,bN=E (U wr):=⟨_,Q⟩;rw[<-dA] at gj⊢;clear cK bc aw dA;have cL:=λe=>cell_of_row wc _ e _ 48 (0,0) gj;have cn:bN<E (U wc):=(gE gj).1;obtain⟨dB,eC⟩:∃dB,dB=wc:=⟨_,Q⟩;subst eC;go_upto_if 32 with fail
    go_cut [] (λaB=>∃aC:MK,NO a0 l M aR ak al ao aD H (kss.take X) aB aC av aa/\aB.heap[bN]? =some (Ob (ae 1 ay az aA D (J ag (O ks) c1)) 48 (0,0)))
    case first=>
     cases cJ
     ·go_wp2_with fail;go_meet;exact⟨bt,ab,gj⟩
     ·go_wp2_with (go_at_call 39;refine(bU ab.s.mk' _ _).mono ?_;rintro fA fB ⟨⟨fC,fD,rfl,eD,dD,eE⟩,-⟩)
      go_meet;exact⟨_,ab.bu dD eD eE,(dD.block _ cn (aJ gj ab.s.mk' dC)).trans gj⟩
    case rest=>
     clear cL cn ab gj;obtain⟨aC,bd,gj⟩:=hcut;have co:=bd.open D;obtain⟨ai,eF⟩:∃ai,ai=wc:=⟨_,Q⟩;subst eF;obtain⟨L,bf⟩:∃L,L=E (U ai):=⟨_,Q⟩;obtain⟨dE,cM⟩:∃dE,dE=ai.alloc (Ob #[.string D,J I 0 0,vN 0] 102):=⟨_,Q⟩;rw[<-cM,<-bf,<-cg.out] at co;obtain⟨cN,dF⟩:∃cN:Nat->Prop,cN=(λb=>aa b\/b=L):=⟨_,Q⟩;rw[<-dF] at co;clear dF;have cL:=λe=>cell_of_row ai _ e _ 48 (0,0) gj;have cn:bN<E (U ai):=(gE gj).1;have bu:Hid (NO a0 l M aR ak al ao aD H (kss.take X) ai aC av aa):=bd;have eG:Hid (∀{aj:World},KX aa (E (U ai)) ai aj->aq (λb=>b<B0) w aj):=λ{aj} bJ=>(bb.out (bd.kx.trans (bJ.mono (λb cf ap=>bd.m2 b cf ap) bd.kx.size))).2.1;have fE:B0<=E (U ai):=oH (bb.out bd.kx).1.size;go_wp2_with fail;rw[<-cM,<-bf];clear cM bf cL cn gj bd;go_loopg [4,9,10,12,56,96,130,137,43] (O ks) (λbK cI _ _ _ _ _ _ _ aT aB=>∃(j ac:Nat) (Y:OA) (Z:Nat) (t:List Nm) (a:MK) (G:VV) (aU:Nat->Prop),bK=O ks - j/\aT=vN j/\cI=vN (ac:Int)/\Hid (ac=T+((ks.take j).map bB).sum)/\j<=O ks/\NI ai l L aC av ak al ao aa aU H D 0 Y Z t (ks.take j) (ks.take j) T aB a G)
     case atStart=>exact⟨0,T,I,0,[],aC,av,cN,Q,Q,Q,(by show T=_;simp),zL _,co⟩
     case round=>
      clear co;obtain⟨j,ac,Y,Z,t,a,G,aU,a8,rfl,rfl,dG,cE,aw⟩:=hrel;have cO:Hid (gk=O ks - j):=a8;clear a8;by_cases cp:j<O ks
      ·have eH:(j:Int)<(O ks:Int):=oM;obtain⟨x,ah⟩:∃x,ks[j]? =some x:=⟨_,gG cp⟩;obtain⟨aH,u,y,z,A,f,B,q,C,K,dq,rfl,ce,dI⟩:=cj.out.2.2 j x ah;have dJ:Hid (q<=20000/\(u=7->2<=q)):=ce;clear ce;obtain rfl:ag=some ⟨aH,0,I⟩:=K;have bM:=dI wr (eG.out aw.e.kx);have ci:aH<E (U wr):=oH aw.e.kx.size;have eI:=qh bM
       have a1:Hid (ks.take (j+1)=ks.take j++[(ae u y z A f (J B q C)).toList]/\T+((ks.take (j+1)).map bB).sum<=100000/\ac+bB (ae u y z A f (J B q C)).toList=T+((ks.take (j+1)).map bB).sum):=by
        have dK:ks.take (j+1)=ks.take j++[(ae u y z A f (J B q C)).toList]:=by rw[List.take_add_one,ah];rfl
        have bH:=(cH.out (X+1)).1;rw[cj.out.2.1,List.flatten_append,List.map_append,List.sum_append,<-cg.out] at bH;have eJ:=bL (ks.map bB) (j+1);rw[<-List.map_take] at eJ;have fF:([ks].flatten.map bB).sum=(ks.map bB).sum:=sQ;have ey:=dG.out;refine⟨dK,oM,?_⟩;rw[dK,ch];omega
       have bc:=aw.below (al1 wr (Ob (ae u y z A f (J B q C)) 48)).1;have eK:Hid (NI ai l L aC av ak al ao aa aU H D 0 Y Z t (ks.take j) (ks.take j) T wr a G):=aw;clear bM dI ah aw;go_upto_region 11 with fail
       go_cut [10] (λeL aB=>∃F:Bool,eL=.pointer (aS (E (U wr)+1))/\aB=((wr.alloc (Ob (ae u y z A f (J B q C)) 48)).alloc (Ob #[.string f,vN 0,vN 0,.bool F] 104)))
       case first=>
        go_wp2_with fail;go_meet;exact⟨_,Q,Q⟩
       case rest=>
        clear eI ci;obtain⟨F,rfl,rfl⟩:=hcut;obtain⟨cP,aQ,aL⟩:=dW wr (Ob (ae u y z A f (J B q C)) 48) (Ob #[.string f,vN 0,vN 0,.bool F] 104);have ab:=bc.below ((al1 (wr.alloc (Ob (ae u y z A f (J B q C)) 48)) (Ob #[.string f,vN 0,vN 0,.bool F] 104)).1);generalize hq:World.alloc (World.alloc wr _) _=ax;have dL:((wr.alloc (Ob (ae u y z A f (J B q C)) 48)).alloc (Ob #[.string f,vN 0,vN 0,.bool F] 104))=ax:=hq;rw[dL] at cP aQ aL ab;clear hq dL bc;have bv:Hid (Below (E (U wr)) wr ax/\NI ai l L aC av ak al ao aa aU H D 0 Y Z t (ks.take j) (ks.take j) T wr a G):=⟨cP,eK.out⟩;clear cP;obtain⟨V,dM⟩:∃V,V=E (U wr):=⟨_,Q⟩;obtain⟨o,dN⟩:∃o,o=E (U wr)+1:=⟨_,Q⟩;have bw:V≠o:=oM;have bx:Hid (E (U wr)<=o/\E (U wr)<=V):=⟨oM,oM⟩;rw[<-dN] at aL⊢;rw[<-dM] at aQ⊢;clear dM dN;have bO:=λe=>cell_of_row ax _ e _ 48 (0,0) aQ;have bz:V<E (U ax):=(gE aQ).1;have cq:=λe=>cell_of_row ax _ e _ 104 (0,0) aL;have cQ:=λe=>frozen_of_row ax o e _ 104 aL;have bP:o<E (U ax):=(gE aL).1;go_upto_block 4 with fail
        go_cut [4] (λeM aB=>∃(cr:Nat) (bA:MK) (bh:VV) (cR:Nat->Prop) (r:Nm),eM=vN (cr:Int)/\Hid (cr=T+((ks.take (j+1)).map bB).sum)/\Hid (u=3\/u=6\/u=8)/\NI ai l L aC av ak al ao aa cR H D 0 Y Z t (ks.take j++[(ae u y z A f (J B q C)).toList]) (ks.take j) T aB bA bh/\aB.heap[V]? =some (Ob (ae u y z A f (J B q C)) 48 (0,0))/\aB.heap[o]? =some (Ob #[.string f,vN r.sort,vN r.n,.bool F] 104 (0,0))/\Hid (r.name=f/\r.eZ=F/\rJ (O bA.ds) (O bh) (T+((ks.take j++[(ae u y z A f (J B q C)).toList]).map bB).sum) r/\(u=3->r.sort=0)/\(u=6->r.sort=2)/\(u=8->r.sort=3)))
        case first=>
         by_cases a2:u=3
         ·subst a2;have cS:Hid (Hid ((3:Int)=3\/(3:Int)=6\/(3:Int)=8)):=by first|exact .inl rfl|exact .inr (.inl Q)
          have aI:Hid (ac=T+((ks.take (j+1)).map bB).sum):=a1.out.2.2
          have cT:O a.ms<=19999:=by
           have R:=bu.out.ml;rw[List.length_take] at R;rw[ab.ms.1];omega
          have cV:O a.ds<=199999:=by
           have R:=ab.dl;have aF:=bu.out.dl;have a2:=j3 3 (ks.take j);have a3:=j3 3 (kss.take X).flatten;have eN:=(cH.out X).2;have bQ:=List.length_take_le j ks;have bR:=dk;omega
          obtain⟨bS,bT,cs⟩:=ab.tv;obtain⟨W,aV⟩:∃W,W=(ax.setCell ⟨o,1,I⟩ (vN 0)).setCell ⟨o,2,I⟩ (vN (O a.ds)):=⟨_,Q⟩
          have aW:NI ai l L aC av ak al ao aa aU H D 0 Y Z t (ks.take j) (ks.take j) T W a G:=by
           rw[aV];exact bv.out.2.below ((bv.out.1.setCell (p:=⟨o,1,I⟩) bx.out.1 _).setCell (p:=⟨o,2,I⟩) bx.out.1 _)
          have a4:W.heap[V]? =some (Ob (ae 3 y z A f (J B q C)) 48 (0,0)):=by
           rw[aV];exact(Below.heap_setCell _ ⟨o,2,I⟩ _ _ bw).trans ((Below.heap_setCell _ ⟨o,1,I⟩ _ _ bw).trans aQ)
          have a5:W.heap[o]? =some (Ob #[.string f,vN 0,vN (O a.ds),.bool F] 104 (0,0)):=by
           have R:=heap_setCell_same ax o 1 _ 104 (vN 0) aL;have aF:=heap_setCell_same _ o 2 _ 104 (vN (O a.ds)) R;rw[aV];exact aF
          have eO:l≠o:=aJ ab.e.s.mk' aL dC;have eP:V≠l:=aJ aQ ab.e.s.mk' dC;have cW:=ab.e.s.mk'.lt
          have cX:ax.cell? ⟨l,1,I⟩=some (J a.df (O a.ds) a.eo):=by
           rw[ab.e.s.mk'.cell 1];rfl
          have eQ:W.cell? ⟨l,1,I⟩=some (J a.df (O a.ds) a.eo):=by
           rw[aW.e.s.mk'.cell 1];rfl
          have dO:=aW.e.s.mk'.lt;have dP:l<E (U W)+1:=oM;have bi:Hid (∀{k:World} {aX:MK},k.heap[V]? =some (Ob (ae 3 y z A f (J B q C)) 48 (0,0))->k.heap[o]? =some (Ob #[.string f,vN 0,vN (O a.ds),.bool F] 104 (0,0))->cz k l aX->(aX.mo=a.mo/\aX.ms=a.ms/\aX.mc=a.mc)->(Ce k V (ae 3 y z A f (J B q C)))/\(∀e,k.cell? ⟨o,e,I⟩=#[.string f,vN 0,vN (O a.ds),.bool F][e]?)/\k.cell? ⟨l,0,I⟩=some (J a.mo (O a.ms) a.mc)):=λ{k aX} R aF a2 a3=>⟨λe=>cell_of_row k _ e _ 48 (0,0) R,λe=>cell_of_row k _ e _ 104 (0,0) aF,by rw[a2.cell 0,<-a3.1,<-a3.2.1,<-a3.2.2];rfl⟩;have KB:Hid (∀{k:World},Below (E (U W)) W k->(Ce k V (ae 3 y z A f (J B q C)))/\(∀e,k.cell? ⟨o,e,I⟩=#[.string f,vN 0,vN (O a.ds),.bool F][e]?)/\k.cell? ⟨l,0,I⟩=some (J a.mo (O a.ms) a.mc)):=λ{k} ap=>bi.out ((ap.block _ (gE a4).1).trans a4) ((ap.block _ (gE a5).1).trans a5) (aW.e.s.mk'.below ap) ⟨Q,Q,Q⟩
          have bV:Hid (∀aG:TypeId,∃af N,(Builtin.append_ #[23,23] aG #[J a.df (O a.ds) a.eo,J (aS (E (U W))) 1 1]).run Tryz.prog ((W.alloc (Ob #[.string f,vN (O a.ms),vN y,.bool F,.bool (decide (2<=A)),.bool (z==1),vN 0,vN 0,J I 0 0,vN (-1)] 69)).drew)=.ok af N/\∃(ar:OA) (au:Nat) (aY:Nat->Prop) (a6:MK) (a7:VV),af=J ar (O a.ds+1) au/\cz N l a/\(λk:World=>(Ce k V (ae 3 y z A f (J B q C)))/\(∀e,k.cell? ⟨o,e,I⟩=#[.string f,vN 0,vN (O a.ds),.bool F][e]?)/\k.cell? ⟨l,0,I⟩=some (J a.mo (O a.ms) a.mc)) N/\(λk:World=>(Ce k V (ae 3 y z A f (J B q C)))/\(∀e,k.cell? ⟨o,e,I⟩=#[.string f,vN 0,vN (O a.ds),.bool F][e]?)/\k.cell? ⟨l,0,I⟩=some (J a.mo (O a.ms) a.mc)) (N.setCell ⟨l,1,I⟩ (J ar (O a.ds+1) au))/\NI ai l L aC av ak al ao aa aY H D 0 Y Z t (ks.take j++[(ae 3 y z A f (J B q C)).toList]) (ks.take j) T (N.setCell ⟨l,1,I⟩ (J ar (O a.ds+1) au)) a6 a7/\(N.setCell ⟨l,1,I⟩ (J ar (O a.ds+1) au)).heap[V]? =some (Ob (ae 3 y z A f (J B q C)) 48 (0,0))/\(N.setCell ⟨l,1,I⟩ (J ar (O a.ds+1) au)).heap[o]? =some (Ob #[.string f,vN 0,vN (O a.ds),.bool F] 104 (0,0))/\rJ (O a6.ds) (O a7) (T+((ks.take j++[(ae 3 y z A f (J B q C)).toList]).map bB).sum) ⟨f,0,O a.ds,F⟩):=λaG=>by
           have bj:=(Below.refl (E (U W)) W).drew;have bC:=aW.below bj;have bW:=(bj.block _ (gE a4).1).trans a4;have bX:=(bj.block _ (gE a5).1).trans a5;obtain⟨af,N,bk,bY,bZ,aa,bl,bm,b0,-,b1,-,aN⟩:=bC.data (x:=(ae 3 y z A f (J B q C)).toList) Q Q (d:=⟨f,O a.ms,y,F,decide (2<=A),z==1,0,0,I,0,[],-1⟩) Q Q ⟨Q,Q⟩ Q (cl:=#[.string f,vN (O a.ms),vN y,.bool F,.bool (decide (2<=A)),.bool (z==1),vN 0,vN 0,J I 0 0,vN (-1)]) Q Q (by intro aT dQ;simp only[List.mem_cons,List.not_mem_nil,or_false] at dQ;rcases dQ with rfl|rfl|rfl|rfl|rfl|rfl|rfl|rfl|rfl|rfl<;>rfl) cV aG Q;have cY:=fw b0 bW dC;have cZ:=fw b0 bX dC;have b2:=fw b1 bW dC;have b3:=fw b1 bX dC;refine⟨af,N,bk,bY,bZ,aa,_,_,bl,bm,bi.out cY cZ bm ⟨Q,Q,Q⟩,bi.out b2 b3 aN.e.s.mk' ⟨Q,Q,Q⟩,aN,b2,b3,?_⟩;refine⟨⟨Int.natCast_nonneg _,λ_=>?_,λK=>absurd (show(0:Int)=2 from K) dC⟩,λK=>absurd (show(0:Int)=3 from K) dC⟩;show((O a.ds:Nat):Int)<((O (a.ds++[_]):Nat):Int);rw[List.length_append];simp only[List.length_cons,List.length_nil];omega
          clear aW;go_upto_region 16 with fail
          rw[<-aV];clear aV bO bz cq cQ bP cX cW aQ aL ab;refine wp_region_noPanic ?_;refine wp_region_held_drew (S:=(λk=>(Ce k V (ae 3 y z A f (J B q C)))/\(∀e,k.cell? ⟨o,e,I⟩=#[.string f,vN 0,vN (O a.ds),.bool F][e]?)/\k.cell? ⟨l,0,I⟩=some (J a.mo (O a.ms) a.mc))) (by as_aux_lemma=>kernel_rfl) ?_ (λhHeld=>?_)
          ·(try dsimp only)
           (first|assumption|exact KB.out ((Below.refl _ _).drew)|exact KB.out ((al1 _ _).1.drew)|exact KS10|exact KS11)
          refine aM 0 ?_;refine aM 1 ?_;refine aM 2 ?_;refine aM 3 ?_;refine aM 4 ?_;refine aM 6 ?_;refine aM 7 ?_;refine aM 8 ?_;refine aM 9 ?_;refine aM 10 ?_;refine aM 11 ?_;refine aM 12 ?_;refine aM 13 ?_;refine aM 14 ?_;refine aM 15 ?_;refine aM 16 ?_;refine aM 17 ?_;refine aM 18 ?_;refine aM 19 ?_;refine aM 20 ?_;refine aM 21 ?_;refine aM 22 ?_;refine aM 23 ?_;refine aM 24 ?_;apply lh
          case h=>
           intro TL;refine pM 5 25 (λP hK=>?_) (λP hK=>?_)
           ·go_simp;refine dH hK ?_;clear hK P;intro a9;refine eA 25 (λP hK=>?_);go_simp;refine dH hK ?_;exact TL trivial
           ·go_simp;refine dH hK ?_;clear hK P;intro a9;refine eA 5 (λP hK=>?_);go_simp;refine dH hK ?_;exact TL trivial
          case p=>
           clear hHeld;intro hHeld;refine eA 26 (λP hK=>?_)
           (refine bg 23 (v:=J a.df (O a.ds) a.eo) (xv:=J (aS (E (U W))) 1 1) rQ rQ rQ rQ (bV.out _) ?_;rintro af dR ⟨ar,au,aY,a6,a7,rfl,aZ,KS10,KS11,aN,c0,c2,c3⟩;have dS:=aZ.cell;have dT:=aZ.fz;have dU:=aZ.lt)
           refine dH hK ?_;clear hK P hHeld;intro hHeld;refine aM 27 ?_;refine aM 28 ?_;refine aM 29 ?_;refine eA 30 (λP hK=>?_);go_simp;refine dH hK ?_;clear hK P hHeld;intro hHeld;refine wpAnyH_done (by as_aux_lemma=>kernel_rfl) ?_ _;refine NoPanic.normal ?_;go_wp2_with fail;go_meet;exact⟨ac,a6,a7,aY,⟨f,0,O a.ds,F⟩,Q,aI,cS.out,aN,c0,c2,Q,Q,c3,λ_=>rfl,λK=>absurd K dC,λK=>absurd K dC⟩
         ·have fG:(u==3)=false:=sU a2;by_cases bQ:u=6
          ·subst bQ;have cS:Hid (Hid ((6:Int)=3\/(6:Int)=6\/(6:Int)=8)):=by first|exact .inl rfl|exact .inr (.inl Q)
           have aI:Hid (ac=T+((ks.take (j+1)).map bB).sum):=a1.out.2.2
           have cT:O a.ms<=19999:=by
            have R:=bu.out.ml;rw[List.length_take] at R;rw[ab.ms.1];omega
           have cV:O G<=199999:=by
            have R:=ab.tl;have aF:=bu.out.tl;have a2:=j3 6 (ks.take j);have a3:=j3 6 (kss.take X).flatten;have eN:=(cH.out X).2;have bQ:=List.length_take_le j ks;have bR:=dk;omega
           obtain⟨bS,bT,cs⟩:=ab.tv;obtain⟨W,aV⟩:∃W,W=(ax.setCell ⟨o,1,I⟩ (vN 2)).setCell ⟨o,2,I⟩ (vN (O G)):=⟨_,Q⟩
           have aW:NI ai l L aC av ak al ao aa aU H D 0 Y Z t (ks.take j) (ks.take j) T W a G:=by
            rw[aV];exact bv.out.2.below ((bv.out.1.setCell (p:=⟨o,1,I⟩) bx.out.1 _).setCell (p:=⟨o,2,I⟩) bx.out.1 _)
           have a4:W.heap[V]? =some (Ob (ae 6 y z A f (J B q C)) 48 (0,0)):=by
            rw[aV];exact(Below.heap_setCell _ ⟨o,2,I⟩ _ _ bw).trans ((Below.heap_setCell _ ⟨o,1,I⟩ _ _ bw).trans aQ)
           have a5:W.heap[o]? =some (Ob #[.string f,vN 2,vN (O G),.bool F] 104 (0,0)):=by
            have R:=heap_setCell_same ax o 1 _ 104 (vN 2) aL;have aF:=heap_setCell_same _ o 2 _ 104 (vN (O G)) R;rw[aV];exact aF
           have eO:l≠o:=aJ ab.e.s.mk' aL dC;have eP:V≠l:=aJ aQ ab.e.s.mk' dC;have cW:=ab.e.s.mk'.lt
           have cX:ax.cell? ⟨l,2,I⟩=some (J bS (O G) bT):=by
            rw[ab.e.s.mk'.cell 2];show some a.tv=_;rw[cs]
           have eQ:W.cell? ⟨l,2,I⟩=some (J bS (O G) bT):=by
            rw[aW.e.s.mk'.cell 2];show some a.tv=_;rw[cs]
           have dO:=aW.e.s.mk'.lt;have dP:l<E (U W)+1:=oM;have bi:Hid (∀{k:World} {aX:MK},k.heap[V]? =some (Ob (ae 6 y z A f (J B q C)) 48 (0,0))->k.heap[o]? =some (Ob #[.string f,vN 2,vN (O G),.bool F] 104 (0,0))->cz k l aX->(aX.mo=a.mo/\aX.ms=a.ms/\aX.mc=a.mc)->(Ce k V (ae 6 y z A f (J B q C)))/\(∀e,k.cell? ⟨o,e,I⟩=#[.string f,vN 2,vN (O G),.bool F][e]?)/\k.cell? ⟨l,0,I⟩=some (J a.mo (O a.ms) a.mc)):=λ{k aX} R aF a2 a3=>⟨λe=>cell_of_row k _ e _ 48 (0,0) R,λe=>cell_of_row k _ e _ 104 (0,0) aF,by rw[a2.cell 0,<-a3.1,<-a3.2.1,<-a3.2.2];rfl⟩;have KB:Hid (∀{k:World},Below (E (U W)) W k->(Ce k V (ae 6 y z A f (J B q C)))/\(∀e,k.cell? ⟨o,e,I⟩=#[.string f,vN 2,vN (O G),.bool F][e]?)/\k.cell? ⟨l,0,I⟩=some (J a.mo (O a.ms) a.mc)):=λ{k} ap=>bi.out ((ap.block _ (gE a4).1).trans a4) ((ap.block _ (gE a5).1).trans a5) (aW.e.s.mk'.below ap) ⟨Q,Q,Q⟩
           have bV:Hid (∀aG:TypeId,∃af N,(Builtin.append_ #[24,24] aG #[J bS (O G) bT,J (aS (E (U W))) 1 1]).run Tryz.prog ((W.alloc (Ob (jr f (O a.ms) y F I 0 0) 74)).drew)=.ok af N/\∃(ar:OA) (au:Nat) (aY:Nat->Prop) (a6:MK) (a7:VV),af=J ar (O G+1) au/\cz N l a/\(λk:World=>(Ce k V (ae 6 y z A f (J B q C)))/\(∀e,k.cell? ⟨o,e,I⟩=#[.string f,vN 2,vN (O G),.bool F][e]?)/\k.cell? ⟨l,0,I⟩=some (J a.mo (O a.ms) a.mc)) N/\(λk:World=>(Ce k V (ae 6 y z A f (J B q C)))/\(∀e,k.cell? ⟨o,e,I⟩=#[.string f,vN 2,vN (O G),.bool F][e]?)/\k.cell? ⟨l,0,I⟩=some (J a.mo (O a.ms) a.mc)) (N.setCell ⟨l,2,I⟩ (J ar (O G+1) au))/\NI ai l L aC av ak al ao aa aY H D 0 Y Z t (ks.take j++[(ae 6 y z A f (J B q C)).toList]) (ks.take j) T (N.setCell ⟨l,2,I⟩ (J ar (O G+1) au)) a6 a7/\(N.setCell ⟨l,2,I⟩ (J ar (O G+1) au)).heap[V]? =some (Ob (ae 6 y z A f (J B q C)) 48 (0,0))/\(N.setCell ⟨l,2,I⟩ (J ar (O G+1) au)).heap[o]? =some (Ob #[.string f,vN 2,vN (O G),.bool F] 104 (0,0))/\rJ (O a6.ds) (O a7) (T+((ks.take j++[(ae 6 y z A f (J B q C)).toList]).map bB).sum) ⟨f,2,O G,F⟩):=λaG=>by
            have bj:=(Below.refl (E (U W)) W).drew;have bC:=aW.below bj;have bW:=(bj.block _ (gE a4).1).trans a4;have bX:=(bj.block _ (gE a5).1).trans a5;obtain⟨af,N,bk,bY,bZ,aa,bl,bm,b0,-,b1,-,aN⟩:=bC.rZ (x:=(ae 6 y z A f (J B q C)).toList) Q Q cs f (O a.ms) y F cV aG Q;have cY:=fw b0 bW dC;have cZ:=fw b0 bX dC;have b2:=fw b1 bW dC;have b3:=fw b1 bX dC;refine⟨af,N,bk,bY,bZ,aa,_,_,bl,bm,bi.out cY cZ bm ⟨Q,Q,Q⟩,bi.out b2 b3 aN.e.s.mk' ⟨Q,Q,Q⟩,aN,b2,b3,?_⟩;refine⟨⟨Int.natCast_nonneg _,λK=>absurd (show(2:Int)=0 from K) dC,λ_=>?_⟩,λK=>absurd (show(2:Int)=3 from K) dC⟩;show((O G:Nat):Int)<((O (G++[_]):Nat):Int);rw[List.length_append];simp only[List.length_cons,List.length_nil];omega
           clear aW;go_upto_region 20 with fail
           rw[<-aV];clear aV bO bz cq cQ bP cX cW aQ aL ab;refine wp_region_noPanic ?_;refine wp_region_held_drew (S:=(λk=>(Ce k V (ae 6 y z A f (J B q C)))/\(∀e,k.cell? ⟨o,e,I⟩=#[.string f,vN 2,vN (O G),.bool F][e]?)/\k.cell? ⟨l,0,I⟩=some (J a.mo (O a.ms) a.mc))) (by as_aux_lemma=>kernel_rfl) ?_ (λhHeld=>?_)
           ·(try dsimp only)
            (first|assumption|exact KB.out ((Below.refl _ _).drew)|exact KB.out ((al1 _ _).1.drew)|exact KS10|exact KS11)
           refine aM 0 ?_;refine aM 1 ?_;refine aM 2 ?_;refine aM 3 ?_;refine aM 4 ?_;refine aM 6 ?_;refine aM 7 ?_;refine aM 8 ?_;refine aM 9 ?_;refine aM 10 ?_;refine aM 11 ?_;refine aM 12 ?_;refine aM 13 ?_;refine aM 14 ?_;refine aM 15 ?_;refine aM 16 ?_;refine aM 17 ?_;refine aM 18 ?_;apply lh
           case h=>
            intro TL;refine pM 5 19 (λP hK=>?_) (λP hK=>?_)
            ·go_simp;refine dH hK ?_;clear hK P;intro a9;refine eA 19 (λP hK=>?_);go_simp;refine dH hK ?_;exact TL trivial
            ·go_simp;refine dH hK ?_;clear hK P;intro a9;refine eA 5 (λP hK=>?_);go_simp;refine dH hK ?_;exact TL trivial
           case p=>
            clear hHeld;intro hHeld;refine eA 20 (λP hK=>?_)
            (refine bg 24 (v:=J bS (O G) bT) (xv:=J (aS (E (U W))) 1 1) rQ rQ rQ rQ (bV.out _) ?_;rintro af dR ⟨ar,au,aY,a6,a7,rfl,aZ,KS10,KS11,aN,c0,c2,c3⟩;have dS:=aZ.cell;have dT:=aZ.fz;have dU:=aZ.lt)
            refine dH hK ?_;clear hK P hHeld;intro hHeld;refine aM 21 ?_;refine aM 22 ?_;refine aM 23 ?_;refine eA 24 (λP hK=>?_);go_simp;refine dH hK ?_;clear hK P hHeld;intro hHeld;refine wpAnyH_done (by as_aux_lemma=>kernel_rfl) ?_ _;refine NoPanic.normal ?_;go_wp2_with fail;go_meet;exact⟨ac,a6,a7,aY,⟨f,2,O G,F⟩,Q,aI,cS.out,aN,c0,c2,Q,Q,c3,λK=>absurd K dC,λ_=>rfl,λK=>absurd K dC⟩
          ·have fH:(u==6)=false:=sU bQ;by_cases c4:u=8
           ·subst c4
            as_aux_lemma=>
             have eR:Hid (Hid ((8:Int)=3\/(8:Int)=6\/(8:Int)=8)):=.inr (.inr Q);have aI:Hid (ac+1=T+((ks.take (j+1)).map bB).sum):=a1.out.2.2;have eS:ac+1<=100000:=oI aI.out a1.out.2.1
             have eT:Hid (∀aT v:Value,NI ai l L aC av ak al ao aa aU H D 0 Y Z t (ks.take j++[(ae 8 y z A f (J B q C)).toList]) (ks.take j) T ((ax.setCell ⟨o,1,I⟩ aT).setCell ⟨o,2,I⟩ v) a G):=λaT v=>by
              have ap:Below (E (U wr)) wr ((ax.setCell ⟨o,1,I⟩ aT).setCell ⟨o,2,I⟩ v):=(bv.out.1.setCell (p:=⟨o,1,I⟩) bx.out.1 aT).setCell (p:=⟨o,2,I⟩) bx.out.1 v;exact(bv.out.2.below ap).other Q Q
             have eU:Hid (((ax.setCell ⟨o,1,I⟩ (vN 3)).setCell ⟨o,2,I⟩ (vN ac)).heap[o]? =some (Ob #[.string f,vN 3,vN ac,.bool F] 104 (0,0))):=by
              have R:=heap_setCell_same ax o 1 _ 104 (vN 3) aL;have aF:=heap_setCell_same _ o 2 _ 104 (vN ac) R;exact aF
             go_wp2_with fail;go_meet;refine⟨ac+1,a,G,aU,⟨f,3,ac,F⟩,by go_num,aI,eR.out,eT.out _ _,?_,eU.out,Q,Q,?_,λK=>absurd K dC,λK=>absurd K dC,λ_=>rfl⟩
             ·exact(Below.heap_setCell _ ⟨o,2,I⟩ _ _ bw).trans ((Below.heap_setCell _ ⟨o,1,I⟩ _ _ bw).trans aQ)
             ·refine⟨⟨Int.natCast_nonneg ac,λK=>absurd (show(3:Int)=0 from K) dC,λK=>absurd (show(3:Int)=2 from K) dC⟩,λ_=>?_⟩;have R:=a1.out.1;have aF:=aI.out;rw[R] at aF;show(ac:Int)<_;omega
           ·have fI:(u==8)=false:=sU c4;have eV:¬(u=3\/u=6\/u=8):=oM
            have dV:Hid (NI ai l L aC av ak al ao aa aU H D 0 Y Z t (ks.take (j+1)) (ks.take (j+1)) T ax a G):=by
             rw[a1.out.1];refine(ab.other ?_ ?_).skip eV
             ·show(if u=3 then 1 else 0)=0;rw[if_neg a2]
             ·show(if u=6 then 1 else 0)=0;rw[if_neg bQ]
            by_cases bR:u=7
            ·subst bR;have fJ:2<=q/\q<=20000:=⟨dJ.out.2 Q,dJ.out.1⟩;have aI:Hid (ac+(q - 2)=T+((ks.take (j+1)).map bB).sum):=a1.out.2.2;have eS:ac+(q - 2)<=100000:=oI aI.out a1.out.2.1;go_wp2_with fail;go_roundg (O ks - (j+1))
             case measure=>rw[cO.out];omega
             case rel=>exact⟨j+1,ac+(q - 2),Y,Z,t,a,G,aU,Q,by go_num,by go_num,aI,cp,dV.out⟩
            ·have fK:(u==7)=false:=sU bR
             have eW:bB (ae u y z A f (J B q C)).toList=0:=by
              show(if u=8 then 1 else if u=7 then _ else 0)=0;rw[if_neg c4,if_neg bR]
             have aI:Hid (ac=T+((ks.take (j+1)).map bB).sum):=by
              have:=a1.out.2.2;rw[eW] at this;exact this
             go_wp2_with fail;go_roundg (O ks - (j+1))
             case measure=>rw[cO.out];omega
             case rel=>exact⟨j+1,ac,Y,Z,t,a,G,aU,Q,by go_num,Q,aI,cp,dV.out⟩
        case rest=>
         clear bO bz cq cQ bP aQ aL ab;obtain⟨cr,bA,bh,cR,r,rfl,aI,eX,b4,dX,dY,dZ⟩:=hcut;obtain⟨fL,a',b5,fM⟩:=r;have d0:=dZ.out;simp only at d0;obtain⟨d1,d2,d3,d4⟩:=d0;have eY:=d1.symm;have eZ:=d2.symm;subst eY;subst eZ;have d5:Hid (rJ (O bA.ds) (O bh) (T+((ks.take j++[(ae u y z A f (J B q C)).toList]).map bB).sum) ⟨f,a',b5,F⟩/\(u=3->a'=0)/\(u=6->a'=2)/\(u=8->a'=3)):=⟨d3,d4⟩;clear dZ d3 d4 d1 d2
         have d6:O t<=20000:=by
          have R:=b4.len;rw[List.length_take] at R;omega
         have bD:=λe=>cell_of_row wc _ e _ 102 (0,0) b4.e.ie;have bE:L<E (U wc):=(gE b4.e.ie).1;go_wp2_with fail;clear bD bE;go_loopg [12,148] (O t) (λbK _ aT aB=>∃(i:Nat) (ba:MK),bK=O t - i/\aT=vN i/\i<=O t/\NI ai l L aC av ak al ao aa cR H D 0 Y Z t (ks.take j++[(ae u y z A f (J B q C)).toList]) (ks.take j) T aB ba bh/\aB.heap[V]? =some (Ob (ae u y z A f (J B q C)) 48 (0,0))/\aB.heap[o]? =some (Ob #[.string f,vN a',vN b5,.bool F] 104 (0,0))/\Hid (O ba.ds=O bA.ds)/\Hid (ba.fk=0->∀x∈t.take i,x.name.toList≠f.toList))
         case atStart=>exact⟨0,bA,Q,Q,zL _,b4,dX,dY,Q,λ_ x ah=>by simp at ah⟩
         case round=>
          clear b4 dX dY;obtain⟨i,ba,a8,rfl,dn,ct,c5,cu,c6,d7⟩:=hrel;have d8:Hid (gk=O t - i):=a8;clear a8;have bO:=λe=>cell_of_row wr _ e _ 48 (0,0) c5;have bz:V<E (U wr):=(gE c5).1;have e0:V<E (U wr)+1:=oM;have cq:=λe=>cell_of_row wr _ e _ 104 (0,0) cu;have bP:o<E (U wr):=(gE cu).1;have e1:o<E (U wr)+1:=oM;by_cases c7:i<O t
          ·have e2:(i:Int)<(O t:Int):=oM;obtain⟨b6,c8⟩:∃b6,t[i]? =some b6:=⟨_,gG c7⟩;obtain⟨b7,e3,d9,fN,-,b8⟩:=aP ct.e.row sQ (λx ah=>by obtain⟨fO,_,rfl⟩:=List.mem_map.1 ah;rfl) (i:=i) (x:=b6.c) (by rw[List.getElem?_map,c8];rfl);obtain⟨rfl,rfl⟩:Y=some ⟨b7,0,I⟩/\Z=e3:=sU d9
           have e4:Hid (t.take (i+1)=t.take i++[b6]):=by
            show _=_;rw[List.take_add_one,c8];rfl
           obtain⟨c9,d',ea,eb⟩:=b6;have fP:wr.cell? ⟨b7,i*4,I⟩=some (.string c9):=b8 0 dC;have fQ:wr.cell? ⟨b7,i*4+1,I⟩=some (vN d'):=b8 1 dC;have fR:wr.cell? ⟨b7,i*4+2,I⟩=some (vN ea):=b8 2 dC;have fS:wr.cell? ⟨b7,i*4+3,I⟩=some (.bool eb):=b8 3 dC;obtain⟨cv,-⟩:=al1 wr (Ob #[.string c9,vN d',vN ea,.bool eb] 104);have b9:=ct.below cv;have cw:=(cv.block V bz).trans c5;have cx:=(cv.block o bP).trans cu;clear b8 d9 c8 cv
           cases e5:(c9.toList==f.toList)
           ·have e6:Hid (ba.fk=0->∀x∈t.take (i+1),x.name.toList≠f.toList):=λb' x ah=>by
             rw[e4.out] at ah;rcases List.mem_append.1 ah with ah|ah
             ·exact d7.out b' x ah
             ·rw[List.mem_singleton.1 ah];simpa using e5
            go_wp2_with fail;go_roundg (O t - (i+1))
            case measure=>rw[d8.out];omega
            case rel=>exact⟨i+1,ba,Q,by go_num,c7,b9,cw,cx,c6,e6⟩
           ·go_wp2_with (go_at_call 39;refine(bU b9.e.s.mk' _ _).mono ?_;rintro fT fU ⟨⟨e7,fV,rfl,ec,c',e8⟩,e9⟩;have e':=b9.bu c' ec e8;have fa:=(c'.block V (gE cw).1 (aJ cw b9.e.s.mk' dC)).trans cw;have fb:=(c'.block o (gE cx).1 (aJ cx b9.e.s.mk' dC)).trans cx)
            have fc:e7≠0:=by
             obtain⟨fW,fX,fY,fd⟩:=e9 dC;have:=cz.inj ec fd;simp at this;omega
            go_roundg (O t - (i+1))
            case measure=>rw[d8.out];omega
            case rel=>exact⟨i+1,_,Q,by go_num,c7,e',fa,fb,c6,λb'=>absurd b' fc⟩
          ·have e2:¬(i:Int)<(O t:Int):=oM;have fe:Hid (t.take i=t):=List.take_of_length_le oM;have da:=ct.e.ie;have bD:=λe=>cell_of_row wr _ e _ 102 (0,0) da;have bE:L<E (U wr):=(gE da).1;have fZ:L≠o:=aJ da cu dC
           have ff:Hid (∀aG:TypeId,∃af N,(Builtin.append_ #[100,100] aG #[J Y (O t) Z,J (aS (E (U wr))) 1 1]).run Tryz.prog (wr.alloc (Ob #[.string f,vN a',vN b5,.bool F] 104))=.ok af N/\∃bn bo ca,af=J bn (O t+1) bo/\N.heap[L]? =some (Ob #[.string D,J Y (O t) Z,vN 0] 102 (0,0))/\NI ai l L aC av ak al ao aa ca H D 0 bn bo (t++[(⟨f,a',b5,F⟩:Nm)]) (ks.take (j+1)) (ks.take (j+1)) T (N.setCell ⟨L,1,I⟩ (J bn (O t+1) bo)) ba bh):=λaG=>by
            obtain⟨af,N,bk,bn,bo,ca,bl,bf,-,ad⟩:=ct.push (c:=u) (p:=y) (n:=z) (m:=A) (s:=f) (kv:=J B q C) (r:=⟨f,a',b5,F⟩) (by rw[c6.out];exact d5.out.1) Q d5.out.2 (λb' x ah=>by have ed:=d7.out b';rw[fe.out] at ed;exact ed x ah) eX.out d6 aG Q;refine⟨af,N,bk,bn,bo,ca,bl,bf,?_⟩;rw[a1.out.1];exact ad
           clear bO bz e0 e1;go_wp2_with (at_builtin;refine bG 100 (v:=J Y (O t) Z) (xv:=J (aS (E (U wr))) 1 1) rQ rQ rQ rQ (ff.out _) ?_;rintro af db ⟨bn,bo,ca,rfl,dc,ad⟩;clear bD bE;have bD:=λe=>cell_of_row db _ e _ 102 (0,0) dc;have ee:=λe=>frozen_of_row db L e _ 102 dc;have bE:L<E (U db):=(gE dc).1)
           go_roundg (O ks - (j+1))
           case measure=>rw[cO.out];omega
           case rel=>exact⟨j+1,cr,bn,bo,_,ba,bh,ca,Q,by go_num,Q,aI,cp,ad⟩
      ·as_aux_lemma=>
        have eH:¬(j:Int)<(O ks:Int):=oM;have ef:Hid (ks.take j=ks):=List.take_of_length_le oM
        have d6:O t<=20000:=by
         have R:=aw.len;rw[List.length_take] at R;omega
        have cT:O a.ms<=19999:=by
         have R:=bu.out.ml;rw[List.length_take] at R;rw[aw.ms.1];omega
        have fg:Hid (ac=((kss.take (X+1)).flatten.map bB).sum):=by
         have R:=dG.out;rw[ef.out,cg.out] at R;show ac=_;rw[cj.out.2.1,List.flatten_append,List.map_append,List.sum_append,R];simp
        have ad:=aw;rw[ef.out] at ad;have bp:=ad.oQ (O t);have cy:=aw.e.ie;have bD:=λe=>cell_of_row wr _ e _ 102 (0,0) cy;have ee:=λe=>frozen_of_row wr L e _ 102 cy;have bE:L<E (U wr):=(gE cy).1;obtain⟨aO,dd⟩:∃aO,aO=wr.setCell ⟨L,2,I⟩ (vN (O t)):=⟨_,Q⟩;rw[<-dd] at bp;have cb:aO.heap[L]? =some (Ob #[.string D,J Y (O t) Z,vN (O t)] 102 (0,0)):=bp.e.ie;have fh:L<E (U aO):=(gE cb).1;have fi:L≠l:=aJ cb bp.e.s.mk' dC
        have bV:Hid (∀aG:TypeId,∃af N,(Builtin.append_ #[22,22] aG #[J a.mo (O a.ms) a.mc,J (aS (E (U aO))) 1 1]).run Tryz.prog ((aO.alloc (Ob #[.string D,J Y (O t) Z,vN (O t)] 102)).drew)=.ok af N/\∃ar au aY,af=J ar (O a.ms+1) au/\cz N l a/\N.heap[L]? =some (Ob #[.string D,J Y (O t) Z,vN (O t)] 102 (0,0))/\(N.setCell ⟨l,0,I⟩ (J ar (O a.ms+1) au)).heap[L]? =some (Ob #[.string D,J Y (O t) Z,vN (O t)] 102 (0,0))/\NO a0 l M aR ak al ao aD H (kss.take (X+1)) (N.setCell ⟨l,0,I⟩ (J ar (O a.ms+1) au)) {a with mo:=ar,mc:=au,ms:=a.ms++[(⟨D,Y,Z,t,O t⟩:Md)]} G aY):=λaG=>by
         have bC:=bp.below ((Below.refl (E (U aO)) aO).drew);rw[cg.out] at bC;obtain⟨af,N,bk,bY,bZ,aa,bl,bm,bf,aN⟩:=NI.done bu.out bC cT oM aG Q;have cA:=bf.trans cb;refine⟨af,N,bk,bY,bZ,aa,bl,bm,cA,(Below.heap_setCell _ ⟨l,0,I⟩ _ _ fi).trans cA,?_⟩;rw[cj.out.2.1];exact aN
        have de:Hid (∀{k:World},k.heap[L]? =some (Ob #[.string D,J Y (O t) Z,vN (O t)] 102 (0,0))->(∀e,k.cell? ⟨L,e,I⟩=#[.string D,J Y (O t) Z,vN (O t)][e]?)):=λ{k} R=>λe=>cell_of_row k _ e _ 102 (0,0) R;have KB:Hid (∀{k:World},Below (E (U aO)) aO k->(∀e,k.cell? ⟨L,e,I⟩=#[.string D,J Y (O t) Z,vN (O t)][e]?)):=λ{k} ap=>de.out ((ap.block _ fh).trans cb)
        have f0:aO.cell? ⟨l,0,I⟩=some (J a.mo (O a.ms) a.mc):=by
         rw[bp.e.s.mk'.cell 0];rfl
        have dO:=bp.e.s.mk'.lt;have dP:l<E (U aO)+1:=oM;clear bp ad aw cb cy;go_upto_region 36 with fail
        rw[<-dd];clear dd bD ee bE;refine wp_region_noPanic ?_;refine wp_region_held_drew (S:=(λk=>(∀e,k.cell? ⟨L,e,I⟩=#[.string D,J Y (O t) Z,vN (O t)][e]?))) (by as_aux_lemma=>kernel_rfl) ?_ (λhHeld=>?_)
        ·(try dsimp only)
         (first|assumption|exact KB.out ((Below.refl _ _).drew)|exact KB.out ((al1 _ _).1.drew)|exact KS10|exact KS11)
        refine aM 0 ?_;refine aM 1 ?_;refine aM 2 ?_;refine aM 3 ?_;refine aM 4 ?_;refine aM 6 ?_;apply lh
        case h=>
         intro TL;refine pM 5 7 (λP hK=>?_) (λP hK=>?_)
         ·go_simp;refine dH hK ?_;clear hK P;intro a9;refine eA 7 (λP hK=>?_);go_simp;refine dH hK ?_;exact TL trivial
         ·go_simp;refine dH hK ?_;clear hK P;intro a9;refine eA 5 (λP hK=>?_);go_simp;refine dH hK ?_;exact TL trivial
        case p=>
         clear hHeld;intro hHeld;refine eA 8 (λP hK=>?_)
         (refine bg 22 (v:=J a.mo (O a.ms) a.mc) (xv:=J (aS (E (U aO))) 1 1) rQ rQ rQ rQ (bV.out _) ?_;rintro af dR ⟨ar,au,aY,rfl,aZ,cA,fj,aN⟩;have KS10:=de.out cA;have KS11:=de.out fj;have dS:=aZ.cell;have dT:=aZ.fz;have dU:=aZ.lt)
         refine dH hK ?_;clear hK P hHeld;intro hHeld;refine aM 9 ?_;refine aM 10 ?_;refine aM 11 ?_;refine eA 12 (λP hK=>?_);go_simp;refine dH hK ?_;clear hK P hHeld;intro hHeld;refine wpAnyH_done (by as_aux_lemma=>kernel_rfl) ?_ _;refine NoPanic.normal ?_;go_wp2_with fail;go_roundg (O mks - (X+1))
         case measure=>rw[eu.out];omega
         case rel=>exact⟨X+1,ac,_,G,aY,Q,by go_num,Q,fg,ev,aN⟩
  ·have ew:¬(X:Int)<(O mks:Int):=oM;have fk:X=O mks:=oM;have fl:Hid (kss.take X=kss):=List.take_of_length_le oM;clear fk;go_wp2_with fail;go_end0;have ad:=aw;rw[fl.out] at ad;exact⟨bt,av,aa,Q,⟨ad.s,(bb.out ad.kx).1,ad.m1,λb cf ap=>ad.m2 b oM ap,ad.ml,ad.dl,ad.tl,ad.nz,ad.tv,ad.rest,ad.own,ad.q,ad.ok,ad.ln,ad.dj⟩⟩
end Go.Proofs.YtdghkacbpebcoaaGreat
