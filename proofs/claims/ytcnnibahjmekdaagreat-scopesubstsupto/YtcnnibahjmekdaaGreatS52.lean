import Derived.Test.YtcnnibahjmekdaaGreatS44
import Derived.Test.YtcnnibahjmekdaaGreatS48
import Derived.Test.YtcnnibahjmekdaaGreatS49
import Derived.Test.YtcnnibahjmekdaaGreatS50
import Derived.Test.YtcnnibahjmekdaaGreatS51
namespace Go.Proofs.YtcnnibahjmekdaaGreat
open Go.RowKit
open Value renaming slice→J
open List renaming length→O
open Option renaming none→I
open World renaming heap→U
open _root_.Array renaming size→E
open Obj renaming cells→Ob
set_option linter.all false
set_option maxRecDepth 100000
set_option maxHeartbeats 0
theorem vu {h:Nat} {w:World} {pos n m:Int} {name:ByteArray} {ko:OA} {kl kc:Nat} (c6:isNode (λb=>b<E (U w)) True (h+6) w (ae 0 pos n m name (J ko kl kc)).toList) (bw:aG (h+6) w (ae 0 pos n m name (J ko kl kc)).toList<=96100):
 Calls Tryz.prog 13 #[.agg (ae 0 pos n m name (J ko kl kc))] w (gD w):=by
 obtain⟨o,d,rfl,c7⟩:=oE.of c6 bw;have ay:Hid (oE h (E (U w)) w ko kc o d):=c7;clear c6 bw c7;go_enter Tryz.func13,Tryz.ntmps13
 go_upto_region 2 with fail
 obtain⟨ac,c8⟩:∃ac,ac=(((w.alloc (Ob (ae 0 pos n m name (J ko (O o) kc)) 46)).alloc (Ob (fD (J I 0 0) (J I 0 0) (J I 0 0) (J I 0 0) (J I 0 0) 0 (J I 0 0)) 30)).alloc (Ob #[vN 0,vN 0] 33)):=⟨_,Q⟩;generalize hq:World.alloc (World.alloc (World.alloc (World.alloc w _) _) _) _=ba;have az:Hid (yZ w ac ba (ae 0 pos n m name (J ko (O o) kc))):=yZ.of c8 hq.symm;clear hq c8;obtain⟨M,bx⟩:∃M,M=E (U w)+1:=⟨_,Q⟩;rw[<-bx];obtain⟨N,bU⟩:∃N,N=M+1:=⟨_,Q⟩;rw[<-bU];obtain⟨e,ce⟩:∃e,e=N+1:=⟨_,Q⟩;rw[<-ce];have cy:cF ba e MZ:=by rw[ce,bU,bx];exact az.out.mk'
 have bb:Hid (e=E (U ac)/\e<E (U ba)/\M=E (U w)+1/\N=E (U w)+2):=⟨by rw[ce,bU,bx];exact az.out.s3.symm,cy.lt,bx,by rw[bU,bx]⟩;clear ce bU bx;go_upto_region 3 with(go_at_call 25;refine(sY 1).mono ?_;rintro fm c9 ⟨c',cz,da⟩;rw[show(mD _).c.toArray=#[.string ⟨#[79,112,116,105,111,110]⟩,vN (-1),vN 0,.bool true,.bool true,.bool true,vN 0,vN 1,J (aS (E (U ba)+2)) 2 2,vN (-1)] from rfl] at c';subst c';have bV:=cy.below cz;have db:=bV.cell;have d3:=bV.fz;have cf:=bV.lt)
 obtain⟨cA,cB⟩:=PS.init (Nat.le_of_eq bb.out.1.symm) bb.out.2.1 bV az.out.b4 cz da;clear cy bV db d3 cf cz da;generalize World.alloc (World.setCell c9 _ _) _=fn at cA cB⊢;go_wp2_with fail;go_loopg [5] 4 (λbc ad wr=>∃(i:Nat) (H:MK) (aA:VV) (aB:Nat->Prop),bc=4 - i/\ad=vN i/\i<=4/\PS wr e H (mD ba) aA aB/\IB ac wr aB/\Hid (O aA=i/\H.rv=J I 0 0/\∀x∈aA,∃T:ByteArray,x=(js T (-1) 0 true I 0 0).toList))
 case atStart=>exact⟨0,MO ba c9,[],_,Q,Q,dC,cA,cB,Q,Q,λx F=>by simp at F⟩
 case round=>
  clear cA cB;obtain⟨i,H,aA,aB,ao,rfl,aC,r,k,ap⟩:=hrel;have dc:Hid (gk=4 - i):=ao;clear ao;obtain⟨bW,aW,ah⟩:=r.tv;rw[ap.out.1] at ah;have cf:=r.kb.lt;have d4:e<E (U wr)+1:=oM
  have d5:wr.cell? ⟨e,2,I⟩=some (J bW i aW):=by
   rw[r.kb.cell 2];show some H.tv=_;rw[ah]
  by_cases dd:i<4
  ·have aD:(i:Int)<4:=oM
   have de:Hid (∀(T:ByteArray) (cC:TypeId),∃bz bA,(Builtin.append_ #[25,25] cC #[J bW i aW,J (aS (E (U wr))) 1 1]).run Tryz.prog ((wr.alloc (Ob (js T (-1) 0 true I 0 0) 93)).drew)=.ok bz bA/\∃(bB:OA) (bC:Nat) (bD:Nat->Prop),bz=J bB (i+1) bC/\cF bA e H/\PS (bA.setCell ⟨e,2,I⟩ (J bB (i+1) bC)) e {H with tv:=J bB (i+1) bC} (mD ba) (aA++[(js T (-1) 0 true I 0 0).toList]) bD/\IB ac (bA.setCell ⟨e,2,I⟩ (J bB (i+1) bC)) bD/\Hid (O (aA++[(js T (-1) 0 true I 0 0).toList])=i+1/\H.rv=J I 0 0/\∀x∈aA++[(js T (-1) 0 true I 0 0).toList],∃T:ByteArray,x=(js T (-1) 0 true I 0 0).toList)):=λT cC=>by
    have df:=(Below.refl (E (U wr)) wr).drew;have d6:=r.below df;obtain⟨aO,bd,bg⟩:=ap.out;have dg:=ah;rw[<-aO] at dg;obtain⟨bz,bA,dh,d7,d8,d9,di,d',dj,ea,bE⟩:=d6.um dg T oM cC Q;rw[aO] at dh di dj bE;refine⟨bz,bA,dh,d7,d8,d9,di,d',bE,(k.below df).kx dj ea,?_,bd,λx F=>?_⟩
    ·rw[List.length_append,aO];rfl
    ·rcases List.mem_append.1 F with F|F
     ·exact bg x F
     ·exact⟨T,List.mem_singleton.1 F⟩
   clear r ah;go_upto_region 6 with fail
   refine wp_region_noPanic ?_;refine wp_region_held_drew (S:=(λ_=>True)) kQ trivial (λhHeld=>?_);refine aK 0 ?_;refine aK 1 ?_;refine aK 2 ?_;refine aK 3 ?_;refine aK 4 ?_;refine aK 6 ?_;refine pU 5 7 (λf hK=>?_) (λf hK=>?_)
   ·go_simp;refine dV hK ?_;clear hK f hHeld;intro hHeld;refine eJ 7 (λf hK=>?_);go_simp
    (go_at_call 26;refine(sE _ _).mono ?_;rintro aY aP ⟨T,rfl,Z⟩;replace Z:=Z.symm;subst Z)
    try go_wp2_with fail
    refine dV hK ?_;clear hK f hHeld;intro hHeld;refine aK 8 ?_;refine eJ 9 (λf hK=>?_);go_simp;refine dV hK ?_;clear hK f hHeld;intro hHeld;refine eJ 10 (λf hK=>?_)
    (refine bf 25 (v:=J bW i aW) (xv:=J (aS (E (U wr))) 1 1) rQ rQ rQ rQ (de.out T _) ?_;rintro bz eb ⟨bB,bC,bD,rfl,bh,bE,cD,cE⟩;have ec:=bh.cell;have ed:=bh.fz;have ee:=bh.lt)
    refine dV hK ?_;clear hK f hHeld;intro hHeld;refine aK 11 ?_;refine aK 12 ?_;refine aK 13 ?_;refine eJ 14 (λf hK=>?_);go_simp;refine dV hK ?_;clear hK f hHeld;intro hHeld;refine wpAnyH_done (by as_aux_lemma=>kernel_rfl) ?_ _;refine NoPanic.normal ?_;go_wp2_with fail;go_roundg (4 - (i+1))
    case measure=>rw[dc.out];omega
    case rel=>exact⟨i+1,_,_,bD,Q,by go_num,dd,bE,cD,cE⟩
   ·go_simp
    (go_at_call 26;refine(sE _ _).mono ?_;rintro aY aP ⟨T,rfl,Z⟩;replace Z:=Z.symm;subst Z)
    try go_wp2_with fail
    refine dV hK ?_;clear hK f hHeld;intro hHeld;refine aK 8 ?_;apply ly
    case h=>
     intro TL;refine pU 5 9 (λf hK=>?_) (λf hK=>?_)
     ·go_simp;refine hK.out _ _ ?_ (λt=>?_)
      ·trivial
      clear hK f;try simp only[Act.put,List.setIfInBounds_toArray,List.set_cons_zero,List.set_cons_succ]
      refine eJ 9 (λf hK=>?_);go_simp;refine hK.out _ _ ?_ ?_
      ·trivial
      try simp only[Act.put,List.setIfInBounds_toArray,List.set_cons_zero,List.set_cons_succ]
      exact TL trivial
     ·go_simp;refine hK.out _ _ ?_ (λt=>?_)
      ·trivial
      clear hK f;try simp only[Act.put,List.setIfInBounds_toArray,List.set_cons_zero,List.set_cons_succ]
      refine eJ 5 (λf hK=>?_);go_simp;refine hK.out _ _ ?_ ?_
      ·trivial
      try simp only[Act.put,List.setIfInBounds_toArray,List.set_cons_zero,List.set_cons_succ]
      exact TL trivial
    case p=>
     clear hHeld;intro hHeld;refine eJ 10 (λf hK=>?_)
     (refine bf 25 (v:=J bW i aW) (xv:=J (aS (E (U wr))) 1 1) rQ rQ rQ rQ (de.out T _) ?_;rintro bz eb ⟨bB,bC,bD,rfl,bh,bE,cD,cE⟩;have ec:=bh.cell;have ed:=bh.fz;have ee:=bh.lt)
     refine dV hK ?_;clear hK f hHeld;intro hHeld;refine aK 11 ?_;refine aK 12 ?_;refine aK 13 ?_;refine eJ 14 (λf hK=>?_);go_simp;refine dV hK ?_;clear hK f hHeld;intro hHeld;refine wpAnyH_done (by as_aux_lemma=>kernel_rfl) ?_ _;refine NoPanic.normal ?_;go_wp2_with fail;go_roundg (4 - (i+1))
     case measure=>rw[dc.out];omega
     case rel=>exact⟨i+1,_,_,bD,Q,by go_num,dd,bE,cD,cE⟩
  ·have aD:¬(i:Int)<4:=oM;obtain rfl:i=4:=oM;obtain⟨C,fp,cg,ef,-,-⟩:=aL r.tr Q (λx F=>by obtain⟨T,rfl⟩:=ap.out.2.2 x F;rfl) (i:=3) (x:=aA[3]'(oH ap.out.1)) (gG _);rw[ah] at cg;obtain rfl:bW=some ⟨C,0,I⟩:=by simp at cg;exact cg.1
   clear cg ef;go_upto_region 8 with fail
   obtain⟨ch,bF,bi,aQ⟩:=xj wr #[vN 1] (ai 5 0 (J I 0 0) (J I 0 0)) (ai 7 0 (J (aS (E (U wr))) 1 1) (J (aS (E (U wr)+1)) 1 1)) 3 39 39;have aa:=r.below ch;have aR:=k.below ch;have dk:Hid (∀b,aB b->b<E (U wr)):=r.mlt;generalize hq8:World.alloc (World.alloc (World.alloc wr _) _) _=V;have dl:(((wr.alloc (Ob #[vN 1] 3)).alloc (Ob (ai 5 0 (J I 0 0) (J I 0 0)) 39)).alloc (Ob (ai 7 0 (J (aS (E (U wr))) 1 1) (J (aS (E (U wr)+1)) 1 1)) 39))=V:=hq8;rw[dl] at bF bi aQ aa aR ch;clear hq8 dl r k d5 cf d4;obtain⟨aZ,dm⟩:∃aZ,aZ=E (U wr):=⟨_,Q⟩;rw[<-dm] at bF aQ bi⊢;obtain⟨a0,dn⟩:∃a0,a0=aZ+1:=⟨_,Q⟩;rw[<-dn] at bi aQ⊢;obtain⟨bH,dp⟩:∃bH,bH=a0+1:=⟨_,Q⟩;rw[<-dp] at aQ⊢;have bX:Hid (¬aB aZ/\¬aB a0/\aZ<E (U V)/\a0<E (U V)):=⟨λh=>oH (dk.out _ h),λh=>oH (dk.out _ h),(gE bF).1,(gE bi).1⟩;have cG:=(gE aQ).1;clear dm dn dp ch;have KB:Hid (∀{aq:World},Below (E (U V)) V aq->aq.cell? ⟨e,2,I⟩=some (J (aS C) 4 aW)/\(Ce aq bH (ai 7 0 (J (aS aZ) 1 1) (J (aS a0) 1 1)))):=λ{aq} a1=>⟨by rw[(aa.kb.below a1).cell 2];show some H.tv=_;rw[ah],λq=>cell_of_row aq _ q _ 39 (0,0) ((a1.block _ cG).trans aQ)⟩;obtain⟨fq,bY⟩:=aX aa.tr (b:=C) (by rw[ah];rfl);obtain⟨eg,eh⟩:=ap.out.2.2 _ (List.getElem_mem (l:=aA) (n:=3) (oH ap.out.1));have cH:aA[3]? =some (js eg (-1) 0 true I 0 0).toList:=by rw[gG (oH ap.out.1),eh]
   obtain⟨ei,fr,ci,-,-,dq⟩:=aL aa.tr Q (λx F=>by obtain⟨T,rfl⟩:=ap.out.2.2 x F;rfl) (i:=3) cH;obtain rfl:C=ei:=by rw[ah] at ci;simp at ci;exact ci.1
   have ej:V.cell? ⟨C,19,I⟩=some (J I 0 0):=dq 4 dC;have ek:=λq=>frozen_of_row V C q _ 93 bY;have cI:C<E (U V):=(gE bY).1;have el:C<E (U V)+1:=oM;have em:C<E (U V)+1+1:=oM;have en:C<E (U V)+1+1+1:=oM;clear ci dq;have dr:e≠C:=aI aa.kb bY dC;have ds:bH≠C:=aI aQ bY dC
   have aE:Hid (∀(ad:Value) (p cj ck:Obj),(λaq:World=>aq.cell? ⟨e,2,I⟩=some (J (aS C) 4 aW)/\(Ce aq bH (ai 7 0 (J (aS aZ) 1 1) (J (aS a0) 1 1)))) ((((V.setCell ⟨C,19,I⟩ ad).alloc p).alloc cj).alloc ck).drew):=λad p cj ck=>by
    have ar:=(((((Below.refl (E (U (V.setCell ⟨C,19,I⟩ ad))) (V.setCell ⟨C,19,I⟩ ad)).alloc (lR _) p).alloc (by simp<;>omega) cj).alloc (by simp<;>omega) ck).drew);have bw:E (U (V.setCell ⟨C,19,I⟩ ad))=E (U V):=sQ;have eo:cF ((((V.setCell ⟨C,19,I⟩ ad).alloc p).alloc cj).alloc ck).drew e H:=(ar.block _ (by rw[bw];exact aa.kb.lt)).trans ((Below.heap_setCell _ ⟨C,19,I⟩ _ _ dr).trans aa.kb);exact⟨by rw[eo.cell 2];show some H.tv=_;rw[ah],λq=>cell_of_row _ _ q _ 39 (0,0) ((ar.block _ (by rw[bw];exact cG)).trans ((Below.heap_setCell _ ⟨C,19,I⟩ _ _ ds).trans aQ))⟩
   have FA:=aa.yF aR ap.out.1 cH ah cI bF bi bX.out.1 bX.out.2.1;have dt:=aa.yE aR ap.out.1 cH ah cI bF bi bX.out.1 bX.out.2.1;have du:Hid _:=FA;have dv:Hid _:=dt;clear FA dt;go_cut [] (λaP=>∃(bI:VV),O bI=4/\MS aP e H bI [] [] 1 0 0 aB 3/\IB ac aP aB)
   case first=>
    refine wp_region_noPanic ?_;refine wp_region_held_drew (S:=(λaq=>aq.cell? ⟨e,2,I⟩=some (J (aS C) 4 aW)/\(Ce aq bH (ai 7 0 (J (aS aZ) 1 1) (J (aS a0) 1 1))))) (by as_aux_lemma=>kernel_rfl) ?_ (λhHeld=>?_)
    ·(try dsimp only)
     (first|assumption|exact KB.out ((Below.refl _ _).drew)|exact KB.out (((Below.refl _ _).alloc (lR _) _).drew)|exact KB.out ((((Below.refl _ _).alloc (lR _) _).alloc (by simp<;>omega) _).drew)|exact KB.out (((((Below.refl _ _).alloc (lR _) _).alloc (by simp<;>omega) _).alloc (by simp<;>omega) _).drew)|exact aE.out _ _ _ _)
    refine aK 0 ?_;refine aK 1 ?_;refine aK 2 ?_;refine aK 3 ?_;refine aK 4 ?_;refine aK 5 ?_;refine aK 7 ?_;refine aK 9 ?_;refine pU 6 8 (λf hK=>?_) (λf hK=>?_)
    ·go_simp;refine hK.out _ _ ?_ (λt=>?_)
     ·(try dsimp only)
      (first|assumption|exact KB.out ((Below.refl _ _).drew)|exact KB.out (((Below.refl _ _).alloc (lR _) _).drew)|exact KB.out ((((Below.refl _ _).alloc (lR _) _).alloc (by simp<;>omega) _).drew)|exact KB.out (((((Below.refl _ _).alloc (lR _) _).alloc (by simp<;>omega) _).alloc (by simp<;>omega) _).drew)|exact aE.out _ _ _ _)
     clear hK f hHeld;have hHeld:=t;clear t;try simp only[Act.put,List.setIfInBounds_toArray,List.set_cons_zero,List.set_cons_succ]
     refine eJ 8 (λf hK=>?_);go_simp;refine hK.out _ _ ?_ (λt=>?_)
     ·(try dsimp only)
      (first|assumption|exact KB.out ((Below.refl _ _).drew)|exact KB.out (((Below.refl _ _).alloc (lR _) _).drew)|exact KB.out ((((Below.refl _ _).alloc (lR _) _).alloc (by simp<;>omega) _).drew)|exact KB.out (((((Below.refl _ _).alloc (lR _) _).alloc (by simp<;>omega) _).alloc (by simp<;>omega) _).drew)|exact aE.out _ _ _ _)
     clear hK f hHeld;have hHeld:=t;clear t;try simp only[Act.put,List.setIfInBounds_toArray,List.set_cons_zero,List.set_cons_succ]
     refine aK 10 ?_;refine aK 11 ?_;refine eJ 12 (λf hK=>?_);go_simp;refine hK.out _ _ ?_ (λt=>?_)
     ·(try dsimp only)
      (first|assumption|exact KB.out ((Below.refl _ _).drew)|exact KB.out (((Below.refl _ _).alloc (lR _) _).drew)|exact KB.out ((((Below.refl _ _).alloc (lR _) _).alloc (by simp<;>omega) _).drew)|exact KB.out (((((Below.refl _ _).alloc (lR _) _).alloc (by simp<;>omega) _).alloc (by simp<;>omega) _).drew)|exact aE.out _ _ _ _)
     clear hK f hHeld;have hHeld:=t;clear t;try simp only[Act.put,List.setIfInBounds_toArray,List.set_cons_zero,List.set_cons_succ]
     refine aK 13 ?_;refine aK 14 ?_;refine eJ 15 (λf hK=>?_);go_simp;refine hK.out _ _ ?_ (λt=>?_)
     ·(try dsimp only)
      (first|assumption|exact KB.out ((Below.refl _ _).drew)|exact KB.out (((Below.refl _ _).alloc (lR _) _).drew)|exact KB.out ((((Below.refl _ _).alloc (lR _) _).alloc (by simp<;>omega) _).drew)|exact KB.out (((((Below.refl _ _).alloc (lR _) _).alloc (by simp<;>omega) _).alloc (by simp<;>omega) _).drew)|exact aE.out _ _ _ _)
     clear hK f hHeld;have hHeld:=t;clear t;try simp only[Act.put,List.setIfInBounds_toArray,List.set_cons_zero,List.set_cons_succ]
     refine wpAnyH_done (by as_aux_lemma=>kernel_rfl) ?_ _;refine NoPanic.normal ?_;go_wp2_with fail;go_meet;exact du.out
    ·go_simp;refine hK.out _ _ ?_ (λt=>?_)
     ·(try dsimp only)
      (first|assumption|exact KB.out ((Below.refl _ _).drew)|exact KB.out (((Below.refl _ _).alloc (lR _) _).drew)|exact KB.out ((((Below.refl _ _).alloc (lR _) _).alloc (by simp<;>omega) _).drew)|exact KB.out (((((Below.refl _ _).alloc (lR _) _).alloc (by simp<;>omega) _).alloc (by simp<;>omega) _).drew)|exact aE.out _ _ _ _)
     clear hK f hHeld;have hHeld:=t;clear t;try simp only[Act.put,List.setIfInBounds_toArray,List.set_cons_zero,List.set_cons_succ]
     refine eJ 6 (λf hK=>?_);go_simp;refine hK.out _ _ ?_ (λt=>?_)
     ·(try dsimp only)
      (first|assumption|exact KB.out ((Below.refl _ _).drew)|exact KB.out (((Below.refl _ _).alloc (lR _) _).drew)|exact KB.out ((((Below.refl _ _).alloc (lR _) _).alloc (by simp<;>omega) _).drew)|exact KB.out (((((Below.refl _ _).alloc (lR _) _).alloc (by simp<;>omega) _).alloc (by simp<;>omega) _).drew)|exact aE.out _ _ _ _)
     clear hK f hHeld;have hHeld:=t;clear t;try simp only[Act.put,List.setIfInBounds_toArray,List.set_cons_zero,List.set_cons_succ]
     refine aK 10 ?_;refine aK 11 ?_;refine eJ 12 (λf hK=>?_);go_simp;refine hK.out _ _ ?_ (λt=>?_)
     ·(try dsimp only)
      (first|assumption|exact KB.out ((Below.refl _ _).drew)|exact KB.out (((Below.refl _ _).alloc (lR _) _).drew)|exact KB.out ((((Below.refl _ _).alloc (lR _) _).alloc (by simp<;>omega) _).drew)|exact KB.out (((((Below.refl _ _).alloc (lR _) _).alloc (by simp<;>omega) _).alloc (by simp<;>omega) _).drew)|exact aE.out _ _ _ _)
     clear hK f hHeld;have hHeld:=t;clear t;try simp only[Act.put,List.setIfInBounds_toArray,List.set_cons_zero,List.set_cons_succ]
     refine aK 13 ?_;refine aK 14 ?_;refine eJ 15 (λf hK=>?_);go_simp;refine hK.out _ _ ?_ (λt=>?_)
     ·(try dsimp only)
      (first|assumption|exact KB.out ((Below.refl _ _).drew)|exact KB.out (((Below.refl _ _).alloc (lR _) _).drew)|exact KB.out ((((Below.refl _ _).alloc (lR _) _).alloc (by simp<;>omega) _).drew)|exact KB.out (((((Below.refl _ _).alloc (lR _) _).alloc (by simp<;>omega) _).alloc (by simp<;>omega) _).drew)|exact aE.out _ _ _ _)
     clear hK f hHeld;have hHeld:=t;clear t;try simp only[Act.put,List.setIfInBounds_toArray,List.set_cons_zero,List.set_cons_succ]
     refine wpAnyH_done (by as_aux_lemma=>kernel_rfl) ?_ _;refine NoPanic.normal ?_;go_wp2_with fail;go_meet;exact dv.out
   case rest=>
    clear bF bi aQ bY ek cI el em en ej cG dr ds;obtain⟨bI,dw,dx,bj⟩:=hcut;have bJ:Hid (H.ms=[]/\H.tv=J (aS C) (O bI) aW/\H.iv=J I 0 0/\H.fv=J I 0 0/\H.fk=0/\H.rv=J I 0 0/\O H.ds=1):=⟨aa.ms.1,by rw[dw];exact ah,aa.rest.1,aa.rest.2.1,aa.rest.2.2,ap.out.2.1,by rw[aa.ds];rfl⟩;have ep:Hid (E (U w)<=E (U ac)):=az.out.b3.size
    have j:Hid (∀{W:World} {cJ:Nat->Prop},IB ac W cJ->Below (E (U w)) w W/\(∀b,cJ b->E (U w)<=b)/\W.heap[E (U w)]? =some (Ob (ae 0 pos n m name (J ko (O o) kc)) 46 (0,0))/\W.heap[M]? =ac.heap[M]? /\W.heap[N]? =ac.heap[N]? /\M<E (U W)/\N<E (U W)):=λ{W cJ} k=>by
     obtain⟨D,u,P,L⟩:=bb.out;have fs:=az.out.s3;have bw:=k.1.size;exact⟨az.out.b3.trans (k.1.mono az.out.b3.size),λb a1=>oI (k.2 b a1) ep.out,(k.1.block _ oM).trans az.out.n,k.1.block _ oM,k.1.block _ oM,oM,oM⟩
    have a2:Hid (∀{W:World},Below (E (U w)) w W->oE h (E (U w)) W ko kc o d):=λ{W} a1=>ay.out.frame (λb bZ _=>a1.block b bZ) (lR _);obtain⟨bk,eq⟩:∃bk,bk=wc:=⟨_,Q⟩;subst eq;clear aa aR bX KB aE du dv;have aT:=λq=>cell_of_row bk _ q _ 46 (0,0) (j.out bj).2.2.1;have aU:E (U w)<E (U bk):=(gE (j.out bj).2.2.1).1;have bl:=a2.out (j.out bj).1;have er:Hid (Calls Tryz.prog 27 #[.pointer (aS e),.agg (ae 0 pos n m name (J ko (O o) kc))] bk (ux bk e H bI 1 0 0 aB 3 d)):=vk (h:=h+3) dx bJ.out.1 bJ.out.2.1 (j.out bj).2.1 (j.out bj).1.size bl.row bl.xK bl.len (λi c aC=>by obtain⟨y,s,z,A,p,B,D,u,P,L,b0⟩:=bl.it i c aC;exact⟨y,s,z,A,p,B,D,u,P,L⟩) (oH bl.fns) (oH bl.bB) ⟨by rw[bJ.out.2.2.2.2.2.2];decide,by rw[dw];decide⟩;clear bl;go_upto_region 10 with(go_at_call 27;refine er.out.mono ?_;rintro ft b1 ⟨dy,R,dz,rfl,aF⟩)
    clear aT aU;have bm:=bj.kx aF.kx aF.m2;have bK:=a2.out (j.out bm).1;have aT:=λq=>cell_of_row b1 _ q _ 46 (0,0) (j.out bm).2.2.1;have aU:E (U w)<E (U b1):=(gE (j.out bm).2.2.1).1;have es:Hid (Calls Tryz.prog 28 #[.pointer (aS e),.agg (ae 0 pos n m name (J ko (O o) kc))] b1 (uq b1 e dy R 1 0 0 dz 3)):=vW (h:=h+1) aF.s aF.dj (j.out bm).2.1 (j.out bm).1.size bK.row bK.xK bK.len (λi c aC=>by obtain⟨y,s,z,A,p,B,D,u,P,L,b0⟩:=bK.it i c aC;exact⟨y,s,z,A,p,B,D,u,P,L⟩) (by rw[aF.ml];exact bK.len) aF.ln (by rw[aF.dl,bJ.out.2.2.2.2.2.2]) (λet eu ev ew=>aF.nz et eu (by rw[bJ.out.2.2.2.2.2.2];exact ev) ew);have cK:Hid (NO bk e H bI 1 0 0 aB 3 d b1 dy R dz):=aF;clear bK aF dx bj;go_upto_region 11 with(go_at_call 28;refine es.out.mono ?_;rintro fu dA ⟨bL,bn,rfl,bO⟩)
    clear aT aU;have cl:=bm.kx bO.kx bO.m2;have ex:Hid (Iq bL d (d.flatten.map bG).sum):=Iq.of cK.out bO;obtain⟨aj,ak,dB⟩:=cK.out.tv
    have ey:Hid (bL.tv=J aj (O R) ak/\bL.iv=J I 0 0/\bL.fv=J I 0 0/\bL.rv=J I 0 0):=by
     obtain⟨ez,eA,eB,fv,eC,fw⟩:=bO.rest;obtain⟨aO,bd,bg,eD,fx⟩:=cK.out.rest;obtain⟨cL,b2,cm,cn,b3,eE,fy⟩:=bJ.out;exact⟨ez.trans dB,eA.trans (aO.trans cm),eB.trans (bd.trans cn),eC.trans (eD.trans eE)⟩
    have dD:=bO.s;have fz:O d=O o:=ay.out.len;have fA:O o<=20000:=ay.out.row.len.2;have aT:=λq=>cell_of_row dA _ q _ 46 (0,0) (j.out cl).2.2.1;have aU:E (U w)<E (U dA):=(gE (j.out cl).2.2.1).1;clear bO bm dB;go_wp2_with fail;clear aT aU;go_loopg [7,8,68] (O o) (λbc _ _ ad wr=>∃(i:Nat) (au:MK) (af b4:Nat),bc=O o - i/\ad=.int .i64 i/\i<=O o/\MS wr e au R [] [] af 0 0 bn b4/\IB ac wr bn/\Hid (Iq au d (d.flatten.map bG).sum/\af<=1+((d.take i).map (λc=>(c.map (aG (h+4) w)).sum)).sum/\au.tv=J aj (O R) ak/\au.iv=J I 0 0/\au.fv=J I 0 0/\au.rv=J I 0 0))
    case atStart=>exact⟨0,bL,1,3,Q,Q,zL _,dD,cl,ex.out,sQ,ey.out⟩
    case round=>
     clear dD cl;obtain⟨i,au,af,b4,ao,rfl,aC,r,k,a3⟩:=hrel;have eF:Hid (gk=O o - i):=ao;clear ao;by_cases av:i<O o
     ·have aD:(i:Int)<(O o:Int):=oM;obtain⟨c,ab⟩:∃c,d[i]? =some c:=⟨_,gG oM⟩;have G:=a2.out (j.out k).1;obtain⟨y,s,z,A,p,B,D,u,P,L,b0⟩:=G.it i c ab;obtain⟨g,ag⟩:=G.xK i av;obtain rfl:ko=some ⟨g,0,I⟩:=ag;obtain⟨dE,a4⟩:=eY G.row (j.out k).1.size D;have a5:=a4 wr (λ_ _ _=>rfl);have dF:g<E (U wr):=oH (j.out k).1.size;have dG:=qt a5;obtain⟨ar,-⟩:=al1 wr (Ob (ae 1 y s z A (J p (O c) B)) 46);have X:=k.below ar;have G:=a2.out (j.out X).1;obtain⟨b5,b6,b7,b8,b9,b',aw,a6,a7,a8,ca⟩:=G.it i c ab
      obtain⟨rfl,rfl,rfl,rfl,rfl,rfl⟩:y=b5/\s=b6/\z=b7/\A=b8/\p=b9/\B=b':=by
       rw[D] at aw;simpa using aw
      clear a4 D aw u P L ca;have u:=a6;have P:=a7;have L:=a8;clear a6 a7 a8 a5;obtain⟨bo,bp⟩:∃bo,au.ms[i]? =some bo:=⟨_,gG (oH a3.out.1.1)⟩;have cb:Hid (Calls Tryz.prog 29 #[.pointer (some ⟨e,0,I⟩),.int .i64 i,.agg (ae 1 y s z A (J p (O c) B))] (wr.alloc (Ob (ae 1 y s z A (J p (O c) B)) 46)) (uE (wr.alloc (Ob (ae 1 y s z A (J p (O c) B)) 46)) e au R [] [] af 0 0 bn b4 (c.map (aG (h+4) (wr.alloc (Ob (ae 1 y s z A (J p (O c) B)) 46)))).sum)):=vC (h:=h) (r.below ar) bp (j.out X).2.1 (j.out X).1.size u P L (λag cM n m cN cO F cP cQ cR=>((a3.out.1.2 ag).1 i bo c bp ab 3 cM n m cN cO F (.inl Q) cP cQ cR).1 Q);have cc:Hid ((c.map (aG (h+4) (wr.alloc (Ob (ae 1 y s z A (J p (O c) B)) 46)))).sum=(c.map (aG (h+4) w)).sum):=jC (λb bZ _=>(j.out X).1.block b bZ) (λx F=>ay.out.node c (mG ab) x F);clear u L bp r k G;go_wp2_with (go_at_call 29;refine cb.out.mono ?_;rintro aY dH ⟨bP,dI,eG,cS,eH,rfl,fB,cT,cU,eI,cV,eK⟩)
      go_roundg (O o - (i+1))
      case measure=>rw[eF.out];omega
      case rel=>
       refine⟨i+1,_,eH,cS,Q,by go_num,av,cT,X.kx cU (λ_ _ h=>h),a3.out.1.next Q (λh=>?_),?_,a3.out.2.2⟩
       ·show bP≠0;rw[cV h];exact h
       ·have aO:=a3.out.2.1;rw[cc.out] at eK;rw[List.take_add_one,ab];simp only[Option.toList_some,List.map_append,List.sum_append,List.map_cons,List.map_nil,List.sum_cons,List.sum_nil];omega
     ·have aD:¬(i:Int)<(O o:Int):=oM
      have dJ:Hid (af<=96101):=by
       have aO:=a3.out.2.1;have bd:=bM (d.map (λc=>(c.map (aG (h+4) w)).sum)) i;rw[<-List.map_take] at bd;have bg:=ay.out.sum;show af<=96101;omega
      clear aC av;go_upto_region 17 with(go_at_call 30;refine(uU r (oH dJ.out)).mono ?_;rintro fC dK ⟨cW,dL,rfl,co⟩)
      clear aD;have aR:=k.kx (KX.cN co.kp r.dT) (λ_ _ h=>h);have cX:=co.s
      have dM:Hid (Iq (au.bt cW dL) d (d.flatten.map bG).sum):=a3.out.1.next Q (λh=>by
       show cW≠0;rw[co.hf h];exact h)
      obtain⟨bq,cY⟩:∃bq,bq=au.bt cW dL:=⟨_,Q⟩;rw[<-cY] at cX dM
      have eL:Hid (bq.tv=J aj (O R) ak/\bq.iv=J I 0 0/\bq.fv=J I 0 0/\bq.rv=J I 0 0):=by
       rw[cY];exact a3.out.2.2
      have aT:=λq=>cell_of_row dK _ q _ 46 (0,0) (j.out aR).2.2.1;have aU:E (U w)<E (U dK):=(gE (j.out aR).2.2.1).1;clear r k co cY;go_wp2_with fail;clear aT aU;go_loopg [9,10,83] (O o) (λbc _ _ ad wr=>∃(i:Nat) (aH:MK) (br:VV) (cp:Nat),bc=O o - i/\ad=vN i/\i<=O o/\MS wr e aH br [] [] af 0 0 bn cp/\IB ac wr bn/\Hid (Iq aH d (d.flatten.map bG).sum/\O br=O R/\aH.tv=J aj (O R) ak/\aH.iv=J I 0 0/\aH.fv=J I 0 0/\aH.rv=J I 0 0))
      case atStart=>exact⟨0,bq,R,_,Q,Q,zL _,cX,aR,dM.out,Q,eL.out⟩
      case round=>
       clear cX aR;obtain⟨i,aH,br,cp,ao,rfl,aC,r,k,bs⟩:=hrel;have eM:Hid (gk=O o - i):=ao;clear ao;by_cases av:i<O o
       ·have aD:(i:Int)<(O o:Int):=oM;obtain⟨c,ab⟩:∃c,d[i]? =some c:=⟨_,gG oM⟩;have G:=a2.out (j.out k).1;obtain⟨y,s,z,A,p,B,D,u,P,L,b0⟩:=G.it i c ab;obtain⟨g,ag⟩:=G.xK i av;obtain rfl:ko=some ⟨g,0,I⟩:=ag;obtain⟨dE,a4⟩:=eY G.row (j.out k).1.size D;have a5:=a4 wr (λ_ _ _=>rfl);have dF:g<E (U wr):=oH (j.out k).1.size;have dG:=qt a5;obtain⟨ar,-⟩:=al1 wr (Ob (ae 1 y s z A (J p (O c) B)) 46);have X:=k.below ar;have G:=a2.out (j.out X).1;obtain⟨b5,b6,b7,b8,b9,b',aw,a6,a7,a8,ca⟩:=G.it i c ab
        obtain⟨rfl,rfl,rfl,rfl,rfl,rfl⟩:y=b5/\s=b6/\z=b7/\A=b8/\p=b9/\B=b':=by
         rw[D] at aw;simpa using aw
        clear a4 D aw u P L ca;have u:=a6;have P:=a7;have L:=a8;clear a6 a7 a8 a5;obtain⟨bo,bp⟩:∃bo,aH.ms[i]? =some bo:=⟨_,gG (oH bs.out.1.1)⟩;have cb:Hid (Calls Tryz.prog 31 #[.pointer (aS e),vN i,.agg (ae 1 y s z A (J p (O c) B))] (wr.alloc (Ob (ae 1 y s z A (J p (O c) B)) 46)) (uv (wr.alloc (Ob (ae 1 y s z A (J p (O c) B)) 46)) e aH br [] [] af 0 0 bn cp)):=sx (h:=h+1) (r.below ar) bp (j.out X).2.1 (j.out X).1.size u P L (λx F=>G.small c (mG ab) x F) (λag cM n m cN cO F cP cQ cR=>((bs.out.1.2 ag).1 i bo c bp ab 6 cM n m cN cO F (.inr (.inl Q)) cP cQ cR).2 Q);clear u L bp r k G;go_wp2_with (go_at_call 31;refine cb.out.mono ?_;rintro aY dH ⟨bP,dI,eN,cS,rfl,cT,cU,eO,eI,cV⟩)
        go_roundg (O o - (i+1))
        case measure=>rw[eM.out];omega
        case rel=>
         refine⟨i+1,_,eN,cS,Q,by go_num,av,cT,X.kx cU (λ_ _ h=>h),bs.out.1.next Q (λh=>?_),eO.trans bs.out.2.1,bs.out.2.2⟩;show bP≠0;rw[cV h];exact h
       ·have aD:¬(i:Int)<(O o:Int):=oM;have aT:=λq=>cell_of_row wr _ q _ 46 (0,0) (j.out k).2.2.1;have aU:E (U w)<E (U wr):=(gE (j.out k).2.2.1).1;clear aC av;go_wp2_with fail;clear aT aU aD;go_loopg [11,12,13,96] (O o) (λbc eP _ _ ad aP=>∃(i:Nat) (cq:Int) (a:MK) (Y K:VV) (fo:OA) (fc:Nat) (aJ:OA) (aM:Nat) (cd:Nat->Prop) (cr a9 a':Nat),bc=O o - i/\ad=.int .i64 i/\eP=.int .i64 cq/\i<=O o/\MS aP e a br Y K af a9 a' cd cr/\IB ac aP cd/\Hid (Iq a d (d.flatten.map bG).sum/\a.tv=J aj (O R) ak/\a.iv=J aJ (O Y) aM/\a.fv=J fo (O K) fc/\a.rv=J I 0 0)/\Hid (O K<=((d.take i).flatten.map bG).sum/\(a.fk=0->O K=((d.take i).flatten.map bG).sum)/\O Y<=O (d.take i).flatten/\a9<=((d.take i).map (λc=>(c.map (aG (h+4) w)).sum)).sum/\a'<=((d.take i).map (λc=>(c.map (aG (h+4) w)).sum)).sum*96100))
        case atStart=>exact⟨0,0,aH,[],[],I,0,I,0,bn,cp,0,0,Q,Q,Q,zL _,r,k,⟨bs.out.1,bs.out.2.2⟩,sQ,sQ,sQ,sQ,sQ⟩
        case round=>
         clear r k;obtain⟨i,cq,a,Y,K,fo,fc,aJ,aM,cd,cr,a9,a',ao,rfl,rfl,aC,r,k,ax,cs⟩:=hrel;have eQ:Hid (gk=O o - i):=ao;clear ao;by_cases av:i<O o
         ·have aD:(i:Int)<(O o:Int):=oM;obtain⟨c,ab⟩:∃c,d[i]? =some c:=⟨_,gG oM⟩;have G:=a2.out (j.out k).1;obtain⟨y,s,z,A,p,B,D,u,P,L,b0⟩:=G.it i c ab;obtain⟨g,ag⟩:=G.xK i av;obtain rfl:ko=some ⟨g,0,I⟩:=ag;obtain⟨dE,a4⟩:=eY G.row (j.out k).1.size D;have a5:=a4 wr (λ_ _ _=>rfl);have dF:g<E (U wr):=oH (j.out k).1.size;have dG:=qt a5;obtain⟨ar,-⟩:=al1 wr (Ob (ae 1 y s z A (J p (O c) B)) 46);have X:=k.below ar;have G:=a2.out (j.out X).1;obtain⟨b5,b6,b7,b8,b9,b',aw,a6,a7,a8,ca⟩:=G.it i c ab
          obtain⟨rfl,rfl,rfl,rfl,rfl,rfl⟩:y=b5/\s=b6/\z=b7/\A=b8/\p=b9/\B=b':=by
           rw[D] at aw;simpa using aw
          clear a4 D aw u P L ca;have u:=a6;have P:=a7;have L:=a8;clear a6 a7 a8 a5;have ct:Hid (((d.take (i+1)).flatten.map bG).sum=((d.take i).flatten.map bG).sum+(c.map bG).sum/\O (d.take (i+1)).flatten=O (d.take i).flatten+O c/\((d.take (i+1)).map (λc=>(c.map (aG (h+4) w)).sum)).sum=((d.take i).map (λc=>(c.map (aG (h+4) w)).sum)).sum+(c.map (aG (h+4) w)).sum/\((d.take (i+1)).map (λc=>(c.map (aG (h+4) w)).sum)).sum<=96100/\O (d.take (i+1)).flatten<=96100/\(c.map bG).sum<=(c.map (aG (h+4) w)).sum/\((d.take i).flatten.map bG).sum<=((d.take i).map (λc=>(c.map (aG (h+4) w)).sum)).sum):=su ay.out ab;have cc:Hid ((c.map (aG (h+4) (wr.alloc (Ob (ae 1 y s z A (J p (O c) B)) 46)))).sum=(c.map (aG (h+4) w)).sum):=jC (λb bZ _=>(j.out X).1.block b bZ) (λx F=>ay.out.node c (mG ab) x F);have cb:Hid (Calls Tryz.prog 32 #[.pointer (some ⟨e,0,I⟩),.int .i64 i,.agg (ae 1 y s z A (J p (O c) B)),.int .i64 cq] (wr.alloc (Ob (ae 1 y s z A (J p (O c) B)) 46)) (uC (wr.alloc (Ob (ae 1 y s z A (J p (O c) B)) 46)) e a br Y K af a9 a' cd cr (c.map bG).sum (O c) (c.map (aG (h+4) (wr.alloc (Ob (ae 1 y s z A (J p (O c) B)) 46)))).sum)):=yy (h:=h) (r.below ar) ax.out.2.2.2.1 ax.out.2.2.1 (oH ax.out.1.1) (j.out X).2.1 (j.out X).1.size u P L b0 (by rw[cc.out];have:=ct.out;omega) (by rw[cc.out];have D:=ct.out;have u:=cs.out.1;omega) (by have D:=ct.out;have u:=cs.out.2.2.1;omega) cq;clear u L r k G;go_wp2_with (go_at_call 32;refine cb.out.mono ?_;rintro aY dH ⟨eR,fE,bP,dI,eG,eS,eT,eU,eV,eW,eX,eZ,b4,e0,e1,rfl,fF,e2,aN⟩)
          go_roundg (O o - (i+1))
          case measure=>rw[eQ.out];omega
          case rel=>
           refine⟨i+1,eR,_,eV,eS,eT,eU,eW,eX,eZ,b4,e0,e1,Q,by go_num,Q,av,aN.s,X.kx aN.kx aN.m2,⟨ax.out.1.next Q (λh=>?_),ax.out.2.1,Q,Q,ax.out.2.2.2.2⟩,?_⟩
           ·show bP≠0;rw[aN.hf h];exact h
           ·obtain⟨aO,bd,bg,-⟩:=ct.out;obtain⟨cL,b2,cm,cn,b3⟩:=cs.out;have fG:=aN.fl;have fH:=aN.il;have e3:=aN.xi;have dN:=aN.xf;have e4:=aN.hf;rw[cc.out] at e3 dN;refine⟨oM,λag=>?_,oM,oM,?_⟩
            ·have aY:bP=0:=ag;have fI:=aN.fe aY;have fJ:=e2 aY
             have cu:a.fk=0:=by
              by_cases bt:a.fk=0
              ·exact bt
              ·exact absurd ((e4 bt).symm.trans aY) bt
             have fK:=b2 cu;omega
            ·rw[bg,Nat.add_mul];exact lT dN (Nat.add_le_add_right b3 _)
         ·have aD:¬(i:Int)<(O o:Int):=oM;have e5:Hid (d.take i=d):=List.take_of_length_le oM
          have bQ:Hid (O K<=96100/\(a.fk=0->O K=(d.flatten.map bG).sum)/\O Y<=96100/\a9<=96100/\a'<=96100*96100):=by
           obtain⟨cL,b2,cm,cn,b3⟩:=cs.out;rw[e5.out] at cL b2 cm cn b3;have aO:=ay.out.fns;have bd:=ay.out.bB;have bg:=ay.out.sum;exact⟨oM,b2,oM,oM,lT b3 (Nat.mul_le_mul_right _ bg)⟩
          clear aC av
          have e6:Hid (∀(cv cZ:Int),(a.fk≠0->cv=a.fk)->(a.bt cv cZ).fk=0->∀m∈(a.bt cv cZ).ms,∀c0∈m.ns.take m.own,c0.sort=3->0<=c0.n/\c0.n<(O K:Int)):=λcv cZ aV ag=>by
           have cu:a.fk=0:=by
            by_cases bt:a.fk=0
            ·exact bt
            ·exact absurd ((aV bt).symm.trans ag) bt
           rw[bQ.out.2.1 cu];exact(ax.out.1.2 cu).2
          have e7:O K<=200000:=oH bQ.out.1;go_upto_region 29 with(go_at_call 33;refine(uh r).mono ?_;rintro fL dO ⟨c1,dP,rfl,cw⟩)
          have dQ:=k.kx (KX.cN cw.kp r.dT) (λ_ _ h=>h);have c2:=cw.s;have e8:Hid (a.fk≠0->c1=a.fk):=cw.hf;clear r k cw aD;have e9:Hid (Calls Tryz.prog 34 #[.pointer (aS e)] dO (jc dO e (a.bt c1 dP) br Y K af a9 a' cd cr)):=wQ c2 (fo:=fo) (fc:=fc) ax.out.2.2.2.1 e7 (e6.out c1 dP e8.out);go_upto_region 30 with(go_at_call 34;refine e9.out.mono ?_;rintro fM al ⟨bR,c3,bu,rfl,dR,dS⟩)
          have e':=dQ.kx (KX.cN dS c2.dT) (λ_ _ h=>h);clear c2 dQ dS;have cx:Hid (a.tv=J aj (O R) ak/\a.iv=J aJ (O Y) aM/\a.fv=J fo (O K) fc/\a.rv=J I 0 0):=ax.out.2;have bS:=dR.mk'
          have db:∀q,al.cell? ⟨e,q,I⟩=#[J a.mo (O a.ms) a.mc,J a.cV (O a.ds) a.dN,J aj (O R) ak,J aJ (O Y) aM,J fo (O K) fc,vN bu,J I 0 0,vN bR,vN c3,a.nv][q]? :=by
           intro q;rw[bS.cell q];show#[Value.slice a.mo (O a.ms) a.mc,J a.cV (O a.ds) a.dN,a.tv,a.iv,a.fv,vN bu,a.rv,vN bR,vN c3,a.nv][q]? =_
           rw[cx.out.1,cx.out.2.1,cx.out.2.2.1,cx.out.2.2.2]
          have cf:=bS.lt;obtain⟨dT,fN,fO,fa,fb,fP,fQ⟩:=j.out e';have bv:al.heap[M]? =some (Ob (fD (J I 0 0) (J I 0 0) (J I 0 0) (J I 0 0) (J I 0 0) 0 (J I 0 0)) 30 (0,0)):=fa.trans (by rw[bb.out.2.2.1];exact az.out.p);have aV:al.heap[N]? =some (Ob #[vN 0,vN 0] 33 (0,0)):=fb.trans (by rw[bb.out.2.2.2];exact az.out.f);have fR:=λq=>cell_of_row al _ q _ 30 (0,0) bv;have fS:=λq=>frozen_of_row al M q _ 30 bv;have fT:=λq=>cell_of_row al _ q _ 33 (0,0) aV;have fU:=λq=>frozen_of_row al N q _ 33 aV;have s:e≠M:=aI bS bv dC;have fV:e≠N:=aI bS aV dC;have c4:M≠N:=aI bv aV dC;have fd:N≠M:=c4.symm;have fe:Hid (∀{W:World},(∀b,b≠M->W.heap[b]? =al.heap[b]?)->E (U W)=E (U al)->∃c5 ff:Nat,PG W c5 ff a.cV a.dN a.ds aJ aM Y fo fc K af a9 a'):=λ{W} D u=>PG.zN dR (oH dJ.out) bQ.out.1 bQ.out.2.2.1 bQ.out.2.2.2.1 bQ.out.2.2.2.2 ax.out.2.2.1 ax.out.2.2.2.1 bv Q D u;have dU:E (U w)<=M:=oH bb.out.2.2.1;have dW:E (U w)<=N:=oH bb.out.2.2.2
          cases dZ:(bR==0)
          ·have d0:bR≠0:=sU dZ;go_wp2_with (go_at_call 35;refine(bN bS).mono ?_;rintro fg aP ⟨rfl,Z⟩;replace Z:=Z.symm;subst Z)
           have fh:Hid (∀bT:Act,bT.defers=[]->bT.tmps.getD 2 undef=.pointer (aS M)->bT.tmps.getD 3 undef=.pointer (aS N)->bodyPost Tryz.prog Tryz.f13 (gD w) .ret bT (jU (jT al M (J I 0 0) (J I 0 0) (J I 0 0) (J I 0 0) (J I 0 0) (vN 0) (J I 0 0)) N (vN bR) (vN c3)).drew):=λbT D u P=>tR bv aV c4 dT dU dW d0 bT D u P;go_region
           all_goals
            go_wp2_with fail;exact fh.out _ Q Q Q
          ·have d0:bR=0:=sU dZ;have fi:=iB bv (J a.mo (O a.ms) a.mc) (J a.cV (O a.ds) a.dN) (J aj (O R) ak) (J aJ (O Y) aM) (J fo (O K) fc) (vN bu) (J I 0 0);have d1:=iC ((dX fd (J a.mo (O a.ms) a.mc) (J a.cV (O a.ds) a.dN) (J aj (O R) ak) (J aJ (O Y) aM) (J fo (O K) fc) (vN bu) (J I 0 0)).trans aV) (vN 0) (vN 0)
           have fj:Hid (gD w (.returned (.tuple #[.agg (fD (J a.mo (O a.ms) a.mc) (J a.cV (O a.ds) a.dN) (J aj (O R) ak) (J aJ (O Y) aM) (J fo (O K) fc) bu (J I 0 0)),.agg #[vN 0,vN 0]])) (jU (jT al M (J a.mo (O a.ms) a.mc) (J a.cV (O a.ds) a.dN) (J aj (O R) ak) (J aJ (O Y) aM) (J fo (O K) fc) (vN bu) (J I 0 0)) N (vN 0) (vN 0))):=by
            refine⟨_,_,_,_,_,_,_,_,_,_,_,_,_,_,_,_,_,_,_,_,_,Q,gB (gA dT dU _ _ _ _ _ _ _) dW _ _,λ_=>?_⟩
            obtain⟨c5,fk,fl⟩:=fe.out (W:=jU (jT al M (J a.mo (O a.ms) a.mc) (J a.cV (O a.ds) a.dN) (J aj (O R) ak) (J aJ (O Y) aM) (J fo (O K) fc) (vN bu) (J I 0 0)) N (vN 0) (vN 0)) (λb a1=>by
             by_cases d2:b=N
             ·rw[d2];exact d1.trans aV.symm
             ·exact(dY d2 _ _).trans (dX a1 _ _ _ _ _ _ _)) sQ
            exact⟨Q,c5,fk,a.ds,Y,K,af,a9,a',Q,Q,Q,fl⟩
           go_wp2_with (go_at_call 35;refine(bN bS).mono ?_;rintro fg aP ⟨rfl,Z⟩;replace Z:=Z.symm;subst Z)
           go_light;exact bodyPost_ret (gx Tryz.results13 Q Q ((dY c4 _ _).trans fi) d1) Q fj.out
end Go.Proofs.YtcnnibahjmekdaaGreat
