import Derived.Test.YtdghkacbpebcoaaGreatS47
import Derived.Test.YtdghkacbpebcoaaGreatS50
import Derived.Test.YtdghkacbpebcoaaGreatS51
import Derived.Test.YtdghkacbpebcoaaGreatS52
import Derived.Test.YtdghkacbpebcoaaGreatS53
namespace Go.Proofs.YtdghkacbpebcoaaGreat
open Go.RowKit
open Value renaming slice→J
open List renaming length→O
open Option renaming none→I
open World renaming heap→U
open _root_.Array renaming size→E
open Obj renaming cells→Ob
set_option linter.all false
set_option maxRecDepth 100000
set_option maxHeartbeats 0
theorem u7 {h:Nat} {w:World} {pos n m:Int} {name:ByteArray} {ko:OA} {kl kc:Nat} (c6:isNode (λb=>b<E (U w)) True (h+6) w (ae 0 pos n m name (J ko kl kc)).toList) (bw:aG (h+6) w (ae 0 pos n m name (J ko kl kc)).toList<=96100):
 Calls Tryz.prog 11 #[.agg (ae 0 pos n m name (J ko kl kc))] w (gD w):=by
 obtain⟨o,d,rfl,c7⟩:=oh.of c6 bw;have ay:Hid (oh h (E (U w)) w ko kc o d):=c7;clear c6 bw c7;go_enter Tryz.func11,Tryz.ntmps11
 go_upto_region 2 with fail
 obtain⟨ac,c8⟩:∃ac,ac=(((w.alloc (Ob (ae 0 pos n m name (J ko (O o) kc)) 48)).alloc (Ob (eL (J I 0 0) (J I 0 0) (J I 0 0) (J I 0 0) (J I 0 0) 0 (J I 0 0)) 29)).alloc (Ob #[vN 0,vN 0] 32)):=⟨_,Q⟩;generalize hq:World.alloc (World.alloc (World.alloc (World.alloc w _) _) _) _=ba;have az:Hid (yI w ac ba (ae 0 pos n m name (J ko (O o) kc))):=yI.of c8 hq.symm;clear hq c8;obtain⟨M,bx⟩:∃M,M=E (U w)+1:=⟨_,Q⟩;rw[<-bx];obtain⟨N,bU⟩:∃N,N=M+1:=⟨_,Q⟩;rw[<-bU];obtain⟨e,ce⟩:∃e,e=N+1:=⟨_,Q⟩;rw[<-ce];have cy:cz ba e MZ:=by rw[ce,bU,bx];exact az.out.mk'
 have bb:Hid (e=E (U ac)/\e<E (U ba)/\M=E (U w)+1/\N=E (U w)+2):=⟨by rw[ce,bU,bx];exact az.out.s3.symm,cy.lt,bx,by rw[bU,bx]⟩;clear ce bU bx;go_upto_region 3 with(go_at_call 20;refine(sO 1).mono ?_;rintro fn c9 ⟨c',cA,da⟩;rw[show(mB _).c.toArray=#[.string ⟨#[79,112,116,105,111,110]⟩,vN (-1),vN 0,.bool true,.bool true,.bool true,vN 0,vN 1,J (aS (E (U ba)+2)) 2 2,vN (-1)] from rfl] at c';subst c';have bV:=cy.below cA;have db:=bV.cell;have d3:=bV.fz;have cf:=bV.lt)
 obtain⟨cB,cC⟩:=PS.init (Nat.le_of_eq bb.out.1.symm) bb.out.2.1 bV az.out.b4 cA da;clear cy bV db d3 cf cA da;generalize World.alloc (World.setCell c9 _ _) _=fp at cB cC⊢;go_wp2_with fail;go_loopg [5] 4 (λbc ad wr=>∃(i:Nat) (H:MK) (aA:VV) (aB:Nat->Prop),bc=4 - i/\ad=vN i/\i<=4/\PS wr e H (mB ba) aA aB/\IB ac wr aB/\Hid (O aA=i/\H.rv=J I 0 0/\∀x∈aA,∃T:ByteArray,x=(jr T (-1) 0 true I 0 0).toList))
 case atStart=>exact⟨0,MO ba c9,[],_,Q,Q,dC,cB,cC,Q,Q,λx F=>by simp at F⟩
 case round=>
  clear cB cC;obtain⟨i,H,aA,aB,ao,rfl,aC,r,k,ap⟩:=hrel;have dc:Hid (gk=4 - i):=ao;clear ao;obtain⟨bW,aW,ah⟩:=r.tv;rw[ap.out.1] at ah;have cf:=r.kb.lt;have d4:e<E (U wr)+1:=oM
  have d5:wr.cell? ⟨e,2,I⟩=some (J bW i aW):=by
   rw[r.kb.cell 2];show some H.tv=_;rw[ah]
  by_cases dd:i<4
  ·have aD:(i:Int)<4:=oM
   have de:Hid (∀(T:ByteArray) (cD:TypeId),∃bz bA,(Builtin.append_ #[24,24] cD #[J bW i aW,J (aS (E (U wr))) 1 1]).run Tryz.prog ((wr.alloc (Ob (jr T (-1) 0 true I 0 0) 74)).drew)=.ok bz bA/\∃(bC:OA) (bD:Nat) (bE:Nat->Prop),bz=J bC (i+1) bD/\cz bA e H/\PS (bA.setCell ⟨e,2,I⟩ (J bC (i+1) bD)) e {H with tv:=J bC (i+1) bD} (mB ba) (aA++[(jr T (-1) 0 true I 0 0).toList]) bE/\IB ac (bA.setCell ⟨e,2,I⟩ (J bC (i+1) bD)) bE/\Hid (O (aA++[(jr T (-1) 0 true I 0 0).toList])=i+1/\H.rv=J I 0 0/\∀x∈aA++[(jr T (-1) 0 true I 0 0).toList],∃T:ByteArray,x=(jr T (-1) 0 true I 0 0).toList)):=λT cD=>by
    have df:=(Below.refl (E (U wr)) wr).drew;have d6:=r.below df;obtain⟨aN,bd,bf⟩:=ap.out;have dg:=ah;rw[<-aN] at dg;obtain⟨bz,bA,dh,d7,d8,d9,di,d',dj,ea,bF⟩:=d6.ua dg T oM cD Q;rw[aN] at dh di dj bF;refine⟨bz,bA,dh,d7,d8,d9,di,d',bF,(k.below df).kx dj ea,?_,bd,λx F=>?_⟩
    ·rw[List.length_append,aN];rfl
    ·rcases List.mem_append.1 F with F|F
     ·exact bf x F
     ·exact⟨T,List.mem_singleton.1 F⟩
   clear r ah;go_upto_region 6 with fail
   refine wp_region_noPanic ?_;refine wp_region_held_drew (S:=(λ_=>True)) kQ trivial (λhHeld=>?_);refine aM 0 ?_;refine aM 1 ?_;refine aM 2 ?_;refine aM 3 ?_;refine aM 4 ?_;refine aM 6 ?_;refine pM 5 7 (λf hK=>?_) (λf hK=>?_)
   ·go_simp;refine dH hK ?_;clear hK f hHeld;intro hHeld;refine eA 7 (λf hK=>?_);go_simp
    (go_at_call 21;refine(se _ _).mono ?_;rintro aX aO ⟨T,rfl,Z⟩;replace Z:=Z.symm;subst Z)
    try go_wp2_with fail
    refine dH hK ?_;clear hK f hHeld;intro hHeld;refine aM 8 ?_;refine eA 9 (λf hK=>?_);go_simp;refine dH hK ?_;clear hK f hHeld;intro hHeld;refine eA 10 (λf hK=>?_)
    (refine bg 24 (v:=J bW i aW) (xv:=J (aS (E (U wr))) 1 1) rQ rQ rQ rQ (de.out T _) ?_;rintro bz eb ⟨bC,bD,bE,rfl,bh,bF,cE,cF⟩;have ec:=bh.cell;have ed:=bh.fz;have ee:=bh.lt)
    refine dH hK ?_;clear hK f hHeld;intro hHeld;refine aM 11 ?_;refine aM 12 ?_;refine aM 13 ?_;refine eA 14 (λf hK=>?_);go_simp;refine dH hK ?_;clear hK f hHeld;intro hHeld;refine wpAnyH_done (by as_aux_lemma=>kernel_rfl) ?_ _;refine NoPanic.normal ?_;go_wp2_with fail;go_roundg (4 - (i+1))
    case measure=>rw[dc.out];omega
    case rel=>exact⟨i+1,_,_,bE,Q,by go_num,dd,bF,cE,cF⟩
   ·go_simp
    (go_at_call 21;refine(se _ _).mono ?_;rintro aX aO ⟨T,rfl,Z⟩;replace Z:=Z.symm;subst Z)
    try go_wp2_with fail
    refine dH hK ?_;clear hK f hHeld;intro hHeld;refine aM 8 ?_;apply lh
    case h=>
     intro TL;refine pM 5 9 (λf hK=>?_) (λf hK=>?_)
     ·go_simp;refine hK.out _ _ ?_ (λt=>?_)
      ·trivial
      clear hK f;try simp only[Act.put,List.setIfInBounds_toArray,List.set_cons_zero,List.set_cons_succ]
      refine eA 9 (λf hK=>?_);go_simp;refine hK.out _ _ ?_ ?_
      ·trivial
      try simp only[Act.put,List.setIfInBounds_toArray,List.set_cons_zero,List.set_cons_succ]
      exact TL trivial
     ·go_simp;refine hK.out _ _ ?_ (λt=>?_)
      ·trivial
      clear hK f;try simp only[Act.put,List.setIfInBounds_toArray,List.set_cons_zero,List.set_cons_succ]
      refine eA 5 (λf hK=>?_);go_simp;refine hK.out _ _ ?_ ?_
      ·trivial
      try simp only[Act.put,List.setIfInBounds_toArray,List.set_cons_zero,List.set_cons_succ]
      exact TL trivial
    case p=>
     clear hHeld;intro hHeld;refine eA 10 (λf hK=>?_)
     (refine bg 24 (v:=J bW i aW) (xv:=J (aS (E (U wr))) 1 1) rQ rQ rQ rQ (de.out T _) ?_;rintro bz eb ⟨bC,bD,bE,rfl,bh,bF,cE,cF⟩;have ec:=bh.cell;have ed:=bh.fz;have ee:=bh.lt)
     refine dH hK ?_;clear hK f hHeld;intro hHeld;refine aM 11 ?_;refine aM 12 ?_;refine aM 13 ?_;refine eA 14 (λf hK=>?_);go_simp;refine dH hK ?_;clear hK f hHeld;intro hHeld;refine wpAnyH_done (by as_aux_lemma=>kernel_rfl) ?_ _;refine NoPanic.normal ?_;go_wp2_with fail;go_roundg (4 - (i+1))
     case measure=>rw[dc.out];omega
     case rel=>exact⟨i+1,_,_,bE,Q,by go_num,dd,bF,cE,cF⟩
  ·have aD:¬(i:Int)<4:=oM;obtain rfl:i=4:=oM;obtain⟨C,fq,cg,ef,-,-⟩:=aP r.tr Q (λx F=>by obtain⟨T,rfl⟩:=ap.out.2.2 x F;rfl) (i:=3) (x:=aA[3]'(oH ap.out.1)) (gG _);rw[ah] at cg;obtain rfl:bW=some ⟨C,0,I⟩:=by simp at cg;exact cg.1
   clear cg ef;go_upto_region 8 with fail
   obtain⟨ch,bG,bi,aQ⟩:=wJ wr #[vN 1] (ak 5 0 (J I 0 0) (J I 0 0)) (ak 7 0 (J (aS (E (U wr))) 1 1) (J (aS (E (U wr)+1)) 1 1)) 3 41 41;have aa:=r.below ch;have aR:=k.below ch;have dk:Hid (∀b,aB b->b<E (U wr)):=r.mlt;generalize hq8:World.alloc (World.alloc (World.alloc wr _) _) _=V;have dl:(((wr.alloc (Ob #[vN 1] 3)).alloc (Ob (ak 5 0 (J I 0 0) (J I 0 0)) 41)).alloc (Ob (ak 7 0 (J (aS (E (U wr))) 1 1) (J (aS (E (U wr)+1)) 1 1)) 41))=V:=hq8;rw[dl] at bG bi aQ aa aR ch;clear hq8 dl r k d5 cf d4;obtain⟨aZ,dm⟩:∃aZ,aZ=E (U wr):=⟨_,Q⟩;rw[<-dm] at bG aQ bi⊢;obtain⟨a0,dn⟩:∃a0,a0=aZ+1:=⟨_,Q⟩;rw[<-dn] at bi aQ⊢;obtain⟨bH,dp⟩:∃bH,bH=a0+1:=⟨_,Q⟩;rw[<-dp] at aQ⊢;have bX:Hid (¬aB aZ/\¬aB a0/\aZ<E (U V)/\a0<E (U V)):=⟨λh=>oH (dk.out _ h),λh=>oH (dk.out _ h),(gE bG).1,(gE bi).1⟩;have cG:=(gE aQ).1;clear dm dn dp ch;have KB:Hid (∀{aq:World},Below (E (U V)) V aq->aq.cell? ⟨e,2,I⟩=some (J (aS C) 4 aW)/\(Ce aq bH (ak 7 0 (J (aS aZ) 1 1) (J (aS a0) 1 1)))):=λ{aq} a1=>⟨by rw[(aa.kb.below a1).cell 2];show some H.tv=_;rw[ah],λq=>cell_of_row aq _ q _ 41 (0,0) ((a1.block _ cG).trans aQ)⟩;obtain⟨fr,bY⟩:=aY aa.tr (b:=C) (by rw[ah];rfl);obtain⟨eg,eh⟩:=ap.out.2.2 _ (List.getElem_mem (l:=aA) (n:=3) (oH ap.out.1));have cH:aA[3]? =some (jr eg (-1) 0 true I 0 0).toList:=by rw[gG (oH ap.out.1),eh]
   obtain⟨ei,fs,ci,-,-,dq⟩:=aP aa.tr Q (λx F=>by obtain⟨T,rfl⟩:=ap.out.2.2 x F;rfl) (i:=3) cH;obtain rfl:C=ei:=by rw[ah] at ci;simp at ci;exact ci.1
   have ej:V.cell? ⟨C,19,I⟩=some (J I 0 0):=dq 4 dC;have ek:=λq=>frozen_of_row V C q _ 74 bY;have cI:C<E (U V):=(gE bY).1;have el:C<E (U V)+1:=oM;have em:C<E (U V)+1+1:=oM;have en:C<E (U V)+1+1+1:=oM;clear ci dq;have dr:e≠C:=aJ aa.kb bY dC;have ds:bH≠C:=aJ aQ bY dC
   have aE:Hid (∀(ad:Value) (p cj ck:Obj),(λaq:World=>aq.cell? ⟨e,2,I⟩=some (J (aS C) 4 aW)/\(Ce aq bH (ak 7 0 (J (aS aZ) 1 1) (J (aS a0) 1 1)))) ((((V.setCell ⟨C,19,I⟩ ad).alloc p).alloc cj).alloc ck).drew):=λad p cj ck=>by
    have ar:=(((((Below.refl (E (U (V.setCell ⟨C,19,I⟩ ad))) (V.setCell ⟨C,19,I⟩ ad)).alloc (lR _) p).alloc (by simp<;>omega) cj).alloc (by simp<;>omega) ck).drew);have bw:E (U (V.setCell ⟨C,19,I⟩ ad))=E (U V):=sQ;have eo:cz ((((V.setCell ⟨C,19,I⟩ ad).alloc p).alloc cj).alloc ck).drew e H:=(ar.block _ (by rw[bw];exact aa.kb.lt)).trans ((Below.heap_setCell _ ⟨C,19,I⟩ _ _ dr).trans aa.kb);exact⟨by rw[eo.cell 2];show some H.tv=_;rw[ah],λq=>cell_of_row _ _ q _ 41 (0,0) ((ar.block _ (by rw[bw];exact cG)).trans ((Below.heap_setCell _ ⟨C,19,I⟩ _ _ ds).trans aQ))⟩
   have FA:=aa.yd aR ap.out.1 cH ah cI bG bi bX.out.1 bX.out.2.1;have dt:=aa.yc aR ap.out.1 cH ah cI bG bi bX.out.1 bX.out.2.1;have du:Hid _:=FA;have dv:Hid _:=dt;clear FA dt;go_cut [] (λaO=>∃(bI:VV),O bI=4/\MS aO e H bI [] [] 1 0 0 aB 3/\IB ac aO aB)
   case first=>
    refine wp_region_noPanic ?_;refine wp_region_held_drew (S:=(λaq=>aq.cell? ⟨e,2,I⟩=some (J (aS C) 4 aW)/\(Ce aq bH (ak 7 0 (J (aS aZ) 1 1) (J (aS a0) 1 1))))) (by as_aux_lemma=>kernel_rfl) ?_ (λhHeld=>?_)
    ·(try dsimp only)
     (first|assumption|exact KB.out ((Below.refl _ _).drew)|exact KB.out (((Below.refl _ _).alloc (lR _) _).drew)|exact KB.out ((((Below.refl _ _).alloc (lR _) _).alloc (by simp<;>omega) _).drew)|exact KB.out (((((Below.refl _ _).alloc (lR _) _).alloc (by simp<;>omega) _).alloc (by simp<;>omega) _).drew)|exact aE.out _ _ _ _)
    refine aM 0 ?_;refine aM 1 ?_;refine aM 2 ?_;refine aM 3 ?_;refine aM 4 ?_;refine aM 5 ?_;refine aM 7 ?_;refine aM 9 ?_;refine pM 6 8 (λf hK=>?_) (λf hK=>?_)
    ·go_simp;refine hK.out _ _ ?_ (λt=>?_)
     ·(try dsimp only)
      (first|assumption|exact KB.out ((Below.refl _ _).drew)|exact KB.out (((Below.refl _ _).alloc (lR _) _).drew)|exact KB.out ((((Below.refl _ _).alloc (lR _) _).alloc (by simp<;>omega) _).drew)|exact KB.out (((((Below.refl _ _).alloc (lR _) _).alloc (by simp<;>omega) _).alloc (by simp<;>omega) _).drew)|exact aE.out _ _ _ _)
     clear hK f hHeld;have hHeld:=t;clear t;try simp only[Act.put,List.setIfInBounds_toArray,List.set_cons_zero,List.set_cons_succ]
     refine eA 8 (λf hK=>?_);go_simp;refine hK.out _ _ ?_ (λt=>?_)
     ·(try dsimp only)
      (first|assumption|exact KB.out ((Below.refl _ _).drew)|exact KB.out (((Below.refl _ _).alloc (lR _) _).drew)|exact KB.out ((((Below.refl _ _).alloc (lR _) _).alloc (by simp<;>omega) _).drew)|exact KB.out (((((Below.refl _ _).alloc (lR _) _).alloc (by simp<;>omega) _).alloc (by simp<;>omega) _).drew)|exact aE.out _ _ _ _)
     clear hK f hHeld;have hHeld:=t;clear t;try simp only[Act.put,List.setIfInBounds_toArray,List.set_cons_zero,List.set_cons_succ]
     refine aM 10 ?_;refine aM 11 ?_;refine eA 12 (λf hK=>?_);go_simp;refine hK.out _ _ ?_ (λt=>?_)
     ·(try dsimp only)
      (first|assumption|exact KB.out ((Below.refl _ _).drew)|exact KB.out (((Below.refl _ _).alloc (lR _) _).drew)|exact KB.out ((((Below.refl _ _).alloc (lR _) _).alloc (by simp<;>omega) _).drew)|exact KB.out (((((Below.refl _ _).alloc (lR _) _).alloc (by simp<;>omega) _).alloc (by simp<;>omega) _).drew)|exact aE.out _ _ _ _)
     clear hK f hHeld;have hHeld:=t;clear t;try simp only[Act.put,List.setIfInBounds_toArray,List.set_cons_zero,List.set_cons_succ]
     refine aM 13 ?_;refine aM 14 ?_;refine eA 15 (λf hK=>?_);go_simp;refine hK.out _ _ ?_ (λt=>?_)
     ·(try dsimp only)
      (first|assumption|exact KB.out ((Below.refl _ _).drew)|exact KB.out (((Below.refl _ _).alloc (lR _) _).drew)|exact KB.out ((((Below.refl _ _).alloc (lR _) _).alloc (by simp<;>omega) _).drew)|exact KB.out (((((Below.refl _ _).alloc (lR _) _).alloc (by simp<;>omega) _).alloc (by simp<;>omega) _).drew)|exact aE.out _ _ _ _)
     clear hK f hHeld;have hHeld:=t;clear t;try simp only[Act.put,List.setIfInBounds_toArray,List.set_cons_zero,List.set_cons_succ]
     refine wpAnyH_done (by as_aux_lemma=>kernel_rfl) ?_ _;refine NoPanic.normal ?_;go_wp2_with fail;go_meet;exact du.out
    ·go_simp;refine hK.out _ _ ?_ (λt=>?_)
     ·(try dsimp only)
      (first|assumption|exact KB.out ((Below.refl _ _).drew)|exact KB.out (((Below.refl _ _).alloc (lR _) _).drew)|exact KB.out ((((Below.refl _ _).alloc (lR _) _).alloc (by simp<;>omega) _).drew)|exact KB.out (((((Below.refl _ _).alloc (lR _) _).alloc (by simp<;>omega) _).alloc (by simp<;>omega) _).drew)|exact aE.out _ _ _ _)
     clear hK f hHeld;have hHeld:=t;clear t;try simp only[Act.put,List.setIfInBounds_toArray,List.set_cons_zero,List.set_cons_succ]
     refine eA 6 (λf hK=>?_);go_simp;refine hK.out _ _ ?_ (λt=>?_)
     ·(try dsimp only)
      (first|assumption|exact KB.out ((Below.refl _ _).drew)|exact KB.out (((Below.refl _ _).alloc (lR _) _).drew)|exact KB.out ((((Below.refl _ _).alloc (lR _) _).alloc (by simp<;>omega) _).drew)|exact KB.out (((((Below.refl _ _).alloc (lR _) _).alloc (by simp<;>omega) _).alloc (by simp<;>omega) _).drew)|exact aE.out _ _ _ _)
     clear hK f hHeld;have hHeld:=t;clear t;try simp only[Act.put,List.setIfInBounds_toArray,List.set_cons_zero,List.set_cons_succ]
     refine aM 10 ?_;refine aM 11 ?_;refine eA 12 (λf hK=>?_);go_simp;refine hK.out _ _ ?_ (λt=>?_)
     ·(try dsimp only)
      (first|assumption|exact KB.out ((Below.refl _ _).drew)|exact KB.out (((Below.refl _ _).alloc (lR _) _).drew)|exact KB.out ((((Below.refl _ _).alloc (lR _) _).alloc (by simp<;>omega) _).drew)|exact KB.out (((((Below.refl _ _).alloc (lR _) _).alloc (by simp<;>omega) _).alloc (by simp<;>omega) _).drew)|exact aE.out _ _ _ _)
     clear hK f hHeld;have hHeld:=t;clear t;try simp only[Act.put,List.setIfInBounds_toArray,List.set_cons_zero,List.set_cons_succ]
     refine aM 13 ?_;refine aM 14 ?_;refine eA 15 (λf hK=>?_);go_simp;refine hK.out _ _ ?_ (λt=>?_)
     ·(try dsimp only)
      (first|assumption|exact KB.out ((Below.refl _ _).drew)|exact KB.out (((Below.refl _ _).alloc (lR _) _).drew)|exact KB.out ((((Below.refl _ _).alloc (lR _) _).alloc (by simp<;>omega) _).drew)|exact KB.out (((((Below.refl _ _).alloc (lR _) _).alloc (by simp<;>omega) _).alloc (by simp<;>omega) _).drew)|exact aE.out _ _ _ _)
     clear hK f hHeld;have hHeld:=t;clear t;try simp only[Act.put,List.setIfInBounds_toArray,List.set_cons_zero,List.set_cons_succ]
     refine wpAnyH_done (by as_aux_lemma=>kernel_rfl) ?_ _;refine NoPanic.normal ?_;go_wp2_with fail;go_meet;exact dv.out
   case rest=>
    clear bG bi aQ bY ek cI el em en ej cG dr ds;obtain⟨bI,dw,dx,bj⟩:=hcut;have bJ:Hid (H.ms=[]/\H.tv=J (aS C) (O bI) aW/\H.iv=J I 0 0/\H.fv=J I 0 0/\H.fk=0/\H.rv=J I 0 0/\O H.ds=1):=⟨aa.ms.1,by rw[dw];exact ah,aa.rest.1,aa.rest.2.1,aa.rest.2.2,ap.out.2.1,by rw[aa.ds];rfl⟩;have ep:Hid (E (U w)<=E (U ac)):=az.out.b3.size
    have j:Hid (∀{W:World} {cJ:Nat->Prop},IB ac W cJ->Below (E (U w)) w W/\(∀b,cJ b->E (U w)<=b)/\W.heap[E (U w)]? =some (Ob (ae 0 pos n m name (J ko (O o) kc)) 48 (0,0))/\W.heap[M]? =ac.heap[M]? /\W.heap[N]? =ac.heap[N]? /\M<E (U W)/\N<E (U W)):=λ{W cJ} k=>by
     obtain⟨D,u,P,L⟩:=bb.out;have ft:=az.out.s3;have bw:=k.1.size;exact⟨az.out.b3.trans (k.1.mono az.out.b3.size),λb a1=>oI (k.2 b a1) ep.out,(k.1.block _ oM).trans az.out.n,k.1.block _ oM,k.1.block _ oM,oM,oM⟩
    have a2:Hid (∀{W:World},Below (E (U w)) w W->oh h (E (U w)) W ko kc o d):=λ{W} a1=>ay.out.frame (λb bZ _=>a1.block b bZ) (lR _);obtain⟨bk,eq⟩:∃bk,bk=wc:=⟨_,Q⟩;subst eq;clear aa aR bX KB aE du dv;have aT:=λq=>cell_of_row bk _ q _ 48 (0,0) (j.out bj).2.2.1;have aU:E (U w)<E (U bk):=(gE (j.out bj).2.2.1).1;have bl:=a2.out (j.out bj).1;have er:Hid (Calls Tryz.prog 22 #[.pointer (aS e),.agg (ae 0 pos n m name (J ko (O o) kc))] bk (uf bk e H bI 1 0 0 aB 3 d)):=uW (h:=h+3) dx bJ.out.1 bJ.out.2.1 (j.out bj).2.1 (j.out bj).1.size bl.row bl.jq bl.len (λi c aC=>by obtain⟨y,s,z,A,p,B,D,u,P,L,b0⟩:=bl.it i c aC;exact⟨y,s,z,A,p,B,D,u,P,L⟩) (oH bl.fns) (oH bl.bj) ⟨by rw[bJ.out.2.2.2.2.2.2];decide,by rw[dw];decide⟩;clear bl;go_upto_region 10 with(go_at_call 22;refine er.out.mono ?_;rintro fu b1 ⟨dy,R,dz,rfl,aF⟩)
    clear aT aU;have bm:=bj.kx aF.kx aF.m2;have bK:=a2.out (j.out bm).1;have aT:=λq=>cell_of_row b1 _ q _ 48 (0,0) (j.out bm).2.2.1;have aU:E (U w)<E (U b1):=(gE (j.out bm).2.2.1).1;have es:Hid (Calls Tryz.prog 23 #[.pointer (aS e),.agg (ae 0 pos n m name (J ko (O o) kc))] b1 (uc b1 e dy R 1 0 0 dz 3)):=vD (h:=h+1) aF.s aF.dj (j.out bm).2.1 (j.out bm).1.size bK.row bK.jq bK.len (λi c aC=>by obtain⟨y,s,z,A,p,B,D,u,P,L,b0⟩:=bK.it i c aC;exact⟨y,s,z,A,p,B,D,u,P,L⟩) (by rw[aF.ml];exact bK.len) aF.ln (by rw[aF.dl,bJ.out.2.2.2.2.2.2]) (λet eu ev ew=>aF.nz et eu (by rw[bJ.out.2.2.2.2.2.2];exact ev) ew);have cK:Hid (NO bk e H bI 1 0 0 aB 3 d b1 dy R dz):=aF;clear bK aF dx bj;go_upto_region 11 with(go_at_call 23;refine es.out.mono ?_;rintro fv dA ⟨bN,bn,rfl,bO⟩)
    clear aT aU;have cl:=bm.kx bO.kx bO.m2;have ex:Hid (Iq bN d (d.flatten.map bB).sum):=Iq.of cK.out bO;obtain⟨ai,aj,dB⟩:=cK.out.tv
    have ey:Hid (bN.tv=J ai (O R) aj/\bN.iv=J I 0 0/\bN.fv=J I 0 0/\bN.rv=J I 0 0):=by
     obtain⟨ez,eB,eC,fw,eD,fx⟩:=bO.rest;obtain⟨aN,bd,bf,eE,fy⟩:=cK.out.rest;obtain⟨cL,b2,cm,cn,b3,eF,fz⟩:=bJ.out;exact⟨ez.trans dB,eB.trans (aN.trans cm),eC.trans (bd.trans cn),eD.trans (eE.trans eF)⟩
    have dD:=bO.s;have fA:O d=O o:=ay.out.len;have fB:O o<=20000:=ay.out.row.len.2;have aT:=λq=>cell_of_row dA _ q _ 48 (0,0) (j.out cl).2.2.1;have aU:E (U w)<E (U dA):=(gE (j.out cl).2.2.1).1;clear bO bm dB;go_wp2_with fail;clear aT aU;go_loopg [7,8,68] (O o) (λbc _ _ ad wr=>∃(i:Nat) (au:MK) (af b4:Nat),bc=O o - i/\ad=.int .i64 i/\i<=O o/\MS wr e au R [] [] af 0 0 bn b4/\IB ac wr bn/\Hid (Iq au d (d.flatten.map bB).sum/\af<=1+((d.take i).map (λc=>(c.map (aG (h+4) w)).sum)).sum/\au.tv=J ai (O R) aj/\au.iv=J I 0 0/\au.fv=J I 0 0/\au.rv=J I 0 0))
    case atStart=>exact⟨0,bN,1,3,Q,Q,zL _,dD,cl,ex.out,sQ,ey.out⟩
    case round=>
     clear dD cl;obtain⟨i,au,af,b4,ao,rfl,aC,r,k,a3⟩:=hrel;have eG:Hid (gk=O o - i):=ao;clear ao;by_cases av:i<O o
     ·have aD:(i:Int)<(O o:Int):=oM;obtain⟨c,ab⟩:∃c,d[i]? =some c:=⟨_,gG oM⟩;have G:=a2.out (j.out k).1;obtain⟨y,s,z,A,p,B,D,u,P,L,b0⟩:=G.it i c ab;obtain⟨g,ag⟩:=G.jq i av;obtain rfl:ko=some ⟨g,0,I⟩:=ag;obtain⟨dE,a4⟩:=eQ G.row (j.out k).1.size D;have a5:=a4 wr (λ_ _ _=>rfl);have dF:g<E (U wr):=oH (j.out k).1.size;have dG:=qh a5;obtain⟨ar,-⟩:=al1 wr (Ob (ae 1 y s z A (J p (O c) B)) 48);have X:=k.below ar;have G:=a2.out (j.out X).1;obtain⟨b5,b6,b7,b8,b9,b',aw,a6,a7,a8,ca⟩:=G.it i c ab
      obtain⟨rfl,rfl,rfl,rfl,rfl,rfl⟩:y=b5/\s=b6/\z=b7/\A=b8/\p=b9/\B=b':=by
       rw[D] at aw;simpa using aw
      clear a4 D aw u P L ca;have u:=a6;have P:=a7;have L:=a8;clear a6 a7 a8 a5;obtain⟨bo,bp⟩:∃bo,au.ms[i]? =some bo:=⟨_,gG (oH a3.out.1.1)⟩;have cb:Hid (Calls Tryz.prog 24 #[.pointer (some ⟨e,0,I⟩),.int .i64 i,.agg (ae 1 y s z A (J p (O c) B))] (wr.alloc (Ob (ae 1 y s z A (J p (O c) B)) 48)) (uo (wr.alloc (Ob (ae 1 y s z A (J p (O c) B)) 48)) e au R [] [] af 0 0 bn b4 (c.map (aG (h+4) (wr.alloc (Ob (ae 1 y s z A (J p (O c) B)) 48)))).sum)):=vh (h:=h) (r.below ar) bp (j.out X).2.1 (j.out X).1.size u P L (λag cM n m cN cO F cP cQ cR=>((a3.out.1.2 ag).1 i bo c bp ab 3 cM n m cN cO F (.inl Q) cP cQ cR).1 Q);have cc:Hid ((c.map (aG (h+4) (wr.alloc (Ob (ae 1 y s z A (J p (O c) B)) 48)))).sum=(c.map (aG (h+4) w)).sum):=jA (λb bZ _=>(j.out X).1.block b bZ) (λx F=>ay.out.node c (mG ab) x F);clear u L bp r k G;go_wp2_with (go_at_call 24;refine cb.out.mono ?_;rintro aX dI ⟨bP,dJ,eH,cS,eI,rfl,fC,cT,cU,eJ,cV,eK⟩)
      go_roundg (O o - (i+1))
      case measure=>rw[eG.out];omega
      case rel=>
       refine⟨i+1,_,eI,cS,Q,by go_num,av,cT,X.kx cU (λ_ _ h=>h),a3.out.1.next Q (λh=>?_),?_,a3.out.2.2⟩
       ·show bP≠0;rw[cV h];exact h
       ·have aN:=a3.out.2.1;rw[cc.out] at eK;rw[List.take_add_one,ab];simp only[Option.toList_some,List.map_append,List.sum_append,List.map_cons,List.map_nil,List.sum_cons,List.sum_nil];omega
     ·have aD:¬(i:Int)<(O o:Int):=oM
      have dK:Hid (af<=96101):=by
       have aN:=a3.out.2.1;have bd:=bL (d.map (λc=>(c.map (aG (h+4) w)).sum)) i;rw[<-List.map_take] at bd;have bf:=ay.out.sum;show af<=96101;omega
      clear aC av;go_upto_region 17 with(go_at_call 25;refine(uH r (oH dK.out)).mono ?_;rintro fD dM ⟨cW,dO,rfl,co⟩)
      clear aD;have aR:=k.kx (KX.cI co.kp r.dG) (λ_ _ h=>h);have cX:=co.s
      have dP:Hid (Iq (au.bu cW dO) d (d.flatten.map bB).sum):=a3.out.1.next Q (λh=>by
       show cW≠0;rw[co.hf h];exact h)
      obtain⟨bq,cY⟩:∃bq,bq=au.bu cW dO:=⟨_,Q⟩;rw[<-cY] at cX dP
      have eM:Hid (bq.tv=J ai (O R) aj/\bq.iv=J I 0 0/\bq.fv=J I 0 0/\bq.rv=J I 0 0):=by
       rw[cY];exact a3.out.2.2
      have aT:=λq=>cell_of_row dM _ q _ 48 (0,0) (j.out aR).2.2.1;have aU:E (U w)<E (U dM):=(gE (j.out aR).2.2.1).1;clear r k co cY;go_wp2_with fail;clear aT aU;go_loopg [9,10,83] (O o) (λbc _ _ ad wr=>∃(i:Nat) (aH:MK) (br:VV) (cp:Nat),bc=O o - i/\ad=vN i/\i<=O o/\MS wr e aH br [] [] af 0 0 bn cp/\IB ac wr bn/\Hid (Iq aH d (d.flatten.map bB).sum/\O br=O R/\aH.tv=J ai (O R) aj/\aH.iv=J I 0 0/\aH.fv=J I 0 0/\aH.rv=J I 0 0))
      case atStart=>exact⟨0,bq,R,_,Q,Q,zL _,cX,aR,dP.out,Q,eM.out⟩
      case round=>
       clear cX aR;obtain⟨i,aH,br,cp,ao,rfl,aC,r,k,bs⟩:=hrel;have eN:Hid (gk=O o - i):=ao;clear ao;by_cases av:i<O o
       ·have aD:(i:Int)<(O o:Int):=oM;obtain⟨c,ab⟩:∃c,d[i]? =some c:=⟨_,gG oM⟩;have G:=a2.out (j.out k).1;obtain⟨y,s,z,A,p,B,D,u,P,L,b0⟩:=G.it i c ab;obtain⟨g,ag⟩:=G.jq i av;obtain rfl:ko=some ⟨g,0,I⟩:=ag;obtain⟨dE,a4⟩:=eQ G.row (j.out k).1.size D;have a5:=a4 wr (λ_ _ _=>rfl);have dF:g<E (U wr):=oH (j.out k).1.size;have dG:=qh a5;obtain⟨ar,-⟩:=al1 wr (Ob (ae 1 y s z A (J p (O c) B)) 48);have X:=k.below ar;have G:=a2.out (j.out X).1;obtain⟨b5,b6,b7,b8,b9,b',aw,a6,a7,a8,ca⟩:=G.it i c ab
        obtain⟨rfl,rfl,rfl,rfl,rfl,rfl⟩:y=b5/\s=b6/\z=b7/\A=b8/\p=b9/\B=b':=by
         rw[D] at aw;simpa using aw
        clear a4 D aw u P L ca;have u:=a6;have P:=a7;have L:=a8;clear a6 a7 a8 a5;obtain⟨bo,bp⟩:∃bo,aH.ms[i]? =some bo:=⟨_,gG (oH bs.out.1.1)⟩;have cb:Hid (Calls Tryz.prog 26 #[.pointer (aS e),vN i,.agg (ae 1 y s z A (J p (O c) B))] (wr.alloc (Ob (ae 1 y s z A (J p (O c) B)) 48)) (ud (wr.alloc (Ob (ae 1 y s z A (J p (O c) B)) 48)) e aH br [] [] af 0 0 bn cp)):=rY (h:=h+1) (r.below ar) bp (j.out X).2.1 (j.out X).1.size u P L (λx F=>G.small c (mG ab) x F) (λag cM n m cN cO F cP cQ cR=>((bs.out.1.2 ag).1 i bo c bp ab 6 cM n m cN cO F (.inr (.inl Q)) cP cQ cR).2 Q);clear u L bp r k G;go_wp2_with (go_at_call 26;refine cb.out.mono ?_;rintro aX dI ⟨bP,dJ,eO,cS,rfl,cT,cU,eP,eJ,cV⟩)
        go_roundg (O o - (i+1))
        case measure=>rw[eN.out];omega
        case rel=>
         refine⟨i+1,_,eO,cS,Q,by go_num,av,cT,X.kx cU (λ_ _ h=>h),bs.out.1.next Q (λh=>?_),eP.trans bs.out.2.1,bs.out.2.2⟩;show bP≠0;rw[cV h];exact h
       ·have aD:¬(i:Int)<(O o:Int):=oM;have aT:=λq=>cell_of_row wr _ q _ 48 (0,0) (j.out k).2.2.1;have aU:E (U w)<E (U wr):=(gE (j.out k).2.2.1).1;clear aC av;go_wp2_with fail;clear aT aU aD;go_loopg [11,12,13,96] (O o) (λbc eR _ _ ad aO=>∃(i:Nat) (cq:Int) (a:MK) (Y K:VV) (fo:OA) (fc:Nat) (aI:OA) (aK:Nat) (cd:Nat->Prop) (cr a9 a':Nat),bc=O o - i/\ad=.int .i64 i/\eR=.int .i64 cq/\i<=O o/\MS aO e a br Y K af a9 a' cd cr/\IB ac aO cd/\Hid (Iq a d (d.flatten.map bB).sum/\a.tv=J ai (O R) aj/\a.iv=J aI (O Y) aK/\a.fv=J fo (O K) fc/\a.rv=J I 0 0)/\Hid (O K<=((d.take i).flatten.map bB).sum/\(a.fk=0->O K=((d.take i).flatten.map bB).sum)/\O Y<=O (d.take i).flatten/\a9<=((d.take i).map (λc=>(c.map (aG (h+4) w)).sum)).sum/\a'<=((d.take i).map (λc=>(c.map (aG (h+4) w)).sum)).sum*96100))
        case atStart=>exact⟨0,0,aH,[],[],I,0,I,0,bn,cp,0,0,Q,Q,Q,zL _,r,k,⟨bs.out.1,bs.out.2.2⟩,sQ,sQ,sQ,sQ,sQ⟩
        case round=>
         clear r k;obtain⟨i,cq,a,Y,K,fo,fc,aI,aK,cd,cr,a9,a',ao,rfl,rfl,aC,r,k,ax,cs⟩:=hrel;have eS:Hid (gk=O o - i):=ao;clear ao;by_cases av:i<O o
         ·have aD:(i:Int)<(O o:Int):=oM;obtain⟨c,ab⟩:∃c,d[i]? =some c:=⟨_,gG oM⟩;have G:=a2.out (j.out k).1;obtain⟨y,s,z,A,p,B,D,u,P,L,b0⟩:=G.it i c ab;obtain⟨g,ag⟩:=G.jq i av;obtain rfl:ko=some ⟨g,0,I⟩:=ag;obtain⟨dE,a4⟩:=eQ G.row (j.out k).1.size D;have a5:=a4 wr (λ_ _ _=>rfl);have dF:g<E (U wr):=oH (j.out k).1.size;have dG:=qh a5;obtain⟨ar,-⟩:=al1 wr (Ob (ae 1 y s z A (J p (O c) B)) 48);have X:=k.below ar;have G:=a2.out (j.out X).1;obtain⟨b5,b6,b7,b8,b9,b',aw,a6,a7,a8,ca⟩:=G.it i c ab
          obtain⟨rfl,rfl,rfl,rfl,rfl,rfl⟩:y=b5/\s=b6/\z=b7/\A=b8/\p=b9/\B=b':=by
           rw[D] at aw;simpa using aw
          clear a4 D aw u P L ca;have u:=a6;have P:=a7;have L:=a8;clear a6 a7 a8 a5;have ct:Hid (((d.take (i+1)).flatten.map bB).sum=((d.take i).flatten.map bB).sum+(c.map bB).sum/\O (d.take (i+1)).flatten=O (d.take i).flatten+O c/\((d.take (i+1)).map (λc=>(c.map (aG (h+4) w)).sum)).sum=((d.take i).map (λc=>(c.map (aG (h+4) w)).sum)).sum+(c.map (aG (h+4) w)).sum/\((d.take (i+1)).map (λc=>(c.map (aG (h+4) w)).sum)).sum<=96100/\O (d.take (i+1)).flatten<=96100/\(c.map bB).sum<=(c.map (aG (h+4) w)).sum/\((d.take i).flatten.map bB).sum<=((d.take i).map (λc=>(c.map (aG (h+4) w)).sum)).sum):=rX ay.out ab;have cc:Hid ((c.map (aG (h+4) (wr.alloc (Ob (ae 1 y s z A (J p (O c) B)) 48)))).sum=(c.map (aG (h+4) w)).sum):=jA (λb bZ _=>(j.out X).1.block b bZ) (λx F=>ay.out.node c (mG ab) x F);have cb:Hid (Calls Tryz.prog 27 #[.pointer (some ⟨e,0,I⟩),.int .i64 i,.agg (ae 1 y s z A (J p (O c) B)),.int .i64 cq] (wr.alloc (Ob (ae 1 y s z A (J p (O c) B)) 48)) (uk (wr.alloc (Ob (ae 1 y s z A (J p (O c) B)) 48)) e a br Y K af a9 a' cd cr (c.map bB).sum (O c) (c.map (aG (h+4) (wr.alloc (Ob (ae 1 y s z A (J p (O c) B)) 48)))).sum)):=xV (h:=h) (r.below ar) ax.out.2.2.2.1 ax.out.2.2.1 (oH ax.out.1.1) (j.out X).2.1 (j.out X).1.size u P L b0 (by rw[cc.out];have:=ct.out;omega) (by rw[cc.out];have D:=ct.out;have u:=cs.out.1;omega) (by have D:=ct.out;have u:=cs.out.2.2.1;omega) cq;clear u L r k G;go_wp2_with (go_at_call 27;refine cb.out.mono ?_;rintro aX dI ⟨eT,fE,bP,dJ,eH,eU,eV,eW,eX,eY,eZ,e0,b4,e1,e2,rfl,fF,e3,aL⟩)
          go_roundg (O o - (i+1))
          case measure=>rw[eS.out];omega
          case rel=>
           refine⟨i+1,eT,_,eX,eU,eV,eW,eY,eZ,e0,b4,e1,e2,Q,by go_num,Q,av,aL.s,X.kx aL.kx aL.m2,⟨ax.out.1.next Q (λh=>?_),ax.out.2.1,Q,Q,ax.out.2.2.2.2⟩,?_⟩
           ·show bP≠0;rw[aL.hf h];exact h
           ·obtain⟨aN,bd,bf,-⟩:=ct.out;obtain⟨cL,b2,cm,cn,b3⟩:=cs.out;have fG:=aL.fl;have fH:=aL.il;have e4:=aL.xi;have dQ:=aL.xf;have e5:=aL.hf;rw[cc.out] at e4 dQ;refine⟨oM,λag=>?_,oM,oM,?_⟩
            ·have aX:bP=0:=ag;have fI:=aL.fe aX;have fJ:=e3 aX
             have cu:a.fk=0:=by
              by_cases bt:a.fk=0
              ·exact bt
              ·exact absurd ((e5 bt).symm.trans aX) bt
             have fK:=b2 cu;omega
            ·rw[bf,Nat.add_mul];exact lT dQ (Nat.add_le_add_right b3 _)
         ·have aD:¬(i:Int)<(O o:Int):=oM;have e6:Hid (d.take i=d):=List.take_of_length_le oM
          have bQ:Hid (O K<=96100/\(a.fk=0->O K=(d.flatten.map bB).sum)/\O Y<=96100/\a9<=96100/\a'<=96100*96100):=by
           obtain⟨cL,b2,cm,cn,b3⟩:=cs.out;rw[e6.out] at cL b2 cm cn b3;have aN:=ay.out.fns;have bd:=ay.out.bj;have bf:=ay.out.sum;exact⟨oM,b2,oM,oM,lT b3 (Nat.mul_le_mul_right _ bf)⟩
          clear aC av
          have e7:Hid (∀(cv cZ:Int),(a.fk≠0->cv=a.fk)->(a.bu cv cZ).fk=0->∀m∈(a.bu cv cZ).ms,∀c0∈m.ns.take m.own,c0.sort=3->0<=c0.n/\c0.n<(O K:Int)):=λcv cZ aV ag=>by
           have cu:a.fk=0:=by
            by_cases bt:a.fk=0
            ·exact bt
            ·exact absurd ((aV bt).symm.trans ag) bt
           rw[bQ.out.2.1 cu];exact(ax.out.1.2 cu).2
          have e8:O K<=200000:=oH bQ.out.1;go_upto_region 29 with(go_at_call 28;refine(tY r).mono ?_;rintro fL dR ⟨c1,dS,rfl,cw⟩)
          have dT:=k.kx (KX.cI cw.kp r.dG) (λ_ _ h=>h);have c2:=cw.s;have e9:Hid (a.fk≠0->c1=a.fk):=cw.hf;clear r k cw aD;have e':Hid (Calls Tryz.prog 29 #[.pointer (aS e)] dR (jc dR e (a.bu c1 dS) br Y K af a9 a' cd cr)):=wj c2 (fo:=fo) (fc:=fc) ax.out.2.2.2.1 e8 (e7.out c1 dS e9.out);go_upto_region 30 with(go_at_call 29;refine e'.out.mono ?_;rintro fM al ⟨bR,c3,bu,rfl,dU,dV⟩)
          have fa:=dT.kx (KX.cI dV c2.dG) (λ_ _ h=>h);clear c2 dT dV;have cx:Hid (a.tv=J ai (O R) aj/\a.iv=J aI (O Y) aK/\a.fv=J fo (O K) fc/\a.rv=J I 0 0):=ax.out.2;have bS:=dU.mk'
          have db:∀q,al.cell? ⟨e,q,I⟩=#[J a.mo (O a.ms) a.mc,J a.df (O a.ds) a.eo,J ai (O R) aj,J aI (O Y) aK,J fo (O K) fc,vN bu,J I 0 0,vN bR,vN c3,a.nv][q]? :=by
           intro q;rw[bS.cell q];show#[Value.slice a.mo (O a.ms) a.mc,J a.df (O a.ds) a.eo,a.tv,a.iv,a.fv,vN bu,a.rv,vN bR,vN c3,a.nv][q]? =_
           rw[cx.out.1,cx.out.2.1,cx.out.2.2.1,cx.out.2.2.2]
          have cf:=bS.lt;obtain⟨dW,fN,fO,fb,fd,fP,fQ⟩:=j.out fa;have bv:al.heap[M]? =some (Ob (eL (J I 0 0) (J I 0 0) (J I 0 0) (J I 0 0) (J I 0 0) 0 (J I 0 0)) 29 (0,0)):=fb.trans (by rw[bb.out.2.2.1];exact az.out.p);have aV:al.heap[N]? =some (Ob #[vN 0,vN 0] 32 (0,0)):=fd.trans (by rw[bb.out.2.2.2];exact az.out.f);have fR:=λq=>cell_of_row al _ q _ 29 (0,0) bv;have fS:=λq=>frozen_of_row al M q _ 29 bv;have fT:=λq=>cell_of_row al _ q _ 32 (0,0) aV;have fU:=λq=>frozen_of_row al N q _ 32 aV;have s:e≠M:=aJ bS bv dC;have fV:e≠N:=aJ bS aV dC;have c4:M≠N:=aJ bv aV dC;have fe:N≠M:=c4.symm;have ff:Hid (∀{W:World},(∀b,b≠M->W.heap[b]? =al.heap[b]?)->E (U W)=E (U al)->∃c5 fg:Nat,PG W c5 fg a.df a.eo a.ds aI aK Y fo fc K af a9 a'):=λ{W} D u=>PG.zx dU (oH dK.out) bQ.out.1 bQ.out.2.2.1 bQ.out.2.2.2.1 bQ.out.2.2.2.2 ax.out.2.2.1 ax.out.2.2.2.1 bv Q D u;have dX:E (U w)<=M:=oH bb.out.2.2.1;have dY:E (U w)<=N:=oH bb.out.2.2.2
          cases dZ:(bR==0)
          ·have d0:bR≠0:=sU dZ;go_wp2_with (go_at_call 30;refine(bM bS).mono ?_;rintro fh aO ⟨rfl,Z⟩;replace Z:=Z.symm;subst Z)
           have fi:Hid (∀bT:Act,bT.defers=[]->bT.tmps.getD 2 undef=.pointer (aS M)->bT.tmps.getD 3 undef=.pointer (aS N)->bodyPost Tryz.prog Tryz.f11 (gD w) .ret bT (jT (jS al M (J I 0 0) (J I 0 0) (J I 0 0) (J I 0 0) (J I 0 0) (vN 0) (J I 0 0)) N (vN bR) (vN c3)).drew):=λbT D u P=>tJ bv aV c4 dW dX dY d0 bT D u P;go_region
           all_goals
            go_wp2_with fail;exact fi.out _ Q Q Q
          ·have d0:bR=0:=sU dZ;have fj:=iy bv (J a.mo (O a.ms) a.mc) (J a.df (O a.ds) a.eo) (J ai (O R) aj) (J aI (O Y) aK) (J fo (O K) fc) (vN bu) (J I 0 0);have d1:=iz ((dL fe (J a.mo (O a.ms) a.mc) (J a.df (O a.ds) a.eo) (J ai (O R) aj) (J aI (O Y) aK) (J fo (O K) fc) (vN bu) (J I 0 0)).trans aV) (vN 0) (vN 0)
           have fk:Hid (gD w (.returned (.tuple #[.agg (eL (J a.mo (O a.ms) a.mc) (J a.df (O a.ds) a.eo) (J ai (O R) aj) (J aI (O Y) aK) (J fo (O K) fc) bu (J I 0 0)),.agg #[vN 0,vN 0]])) (jT (jS al M (J a.mo (O a.ms) a.mc) (J a.df (O a.ds) a.eo) (J ai (O R) aj) (J aI (O Y) aK) (J fo (O K) fc) (vN bu) (J I 0 0)) N (vN 0) (vN 0))):=by
            refine⟨_,_,_,_,_,_,_,_,_,_,_,_,_,_,_,_,_,_,_,_,_,Q,gB (gA dW dX _ _ _ _ _ _ _) dY _ _,λ_=>?_⟩
            obtain⟨c5,fl,fm⟩:=ff.out (W:=jT (jS al M (J a.mo (O a.ms) a.mc) (J a.df (O a.ds) a.eo) (J ai (O R) aj) (J aI (O Y) aK) (J fo (O K) fc) (vN bu) (J I 0 0)) N (vN 0) (vN 0)) (λb a1=>by
             by_cases d2:b=N
             ·rw[d2];exact d1.trans aV.symm
             ·exact(dN d2 _ _).trans (dL a1 _ _ _ _ _ _ _)) sQ
            exact⟨Q,c5,fl,a.ds,Y,K,af,a9,a',Q,Q,Q,fm⟩
           go_wp2_with (go_at_call 30;refine(bM bS).mono ?_;rintro fh aO ⟨rfl,Z⟩;replace Z:=Z.symm;subst Z)
           go_light;exact bodyPost_ret (gx Tryz.results11 Q Q ((dN c4 _ _).trans fj) d1) Q fk.out
end Go.Proofs.YtdghkacbpebcoaaGreat
