import Derived.Test.YtcnnibahjmekdaaGreatS26
namespace Go.Proofs.YtcnnibahjmekdaaGreat
open Go.RowKit
open Value renaming slice→J
open List renaming length→O
open Option renaming none→I
open World renaming heap→U
open _root_.Array renaming size→E
open Obj renaming cells→Ob
set_option linter.all false
set_option maxRecDepth 100000
set_option maxHeartbeats 0
theorem sI {S S':Nat->Prop} {G aq:Int->Int->Nat->Nat->Prop}:(h o:Nat)->∀{w:World} {ka na kb nb:Int} {la lb:Value} {l m:OA} {q i r j:Nat},af S G h w (ai ka na la (J l q i)).toList->af S' aq o w (ai kb nb lb (J m r j)).toList->
 Calls Tryz.prog 10 #[.agg (ai ka na la (J l q i)),.agg (ai kb nb lb (J m r j))] w (fB w (bE h w (ai ka na la (J l q i)).toList=bE h w (ai kb nb lb (J m r j)).toList))
 |0,_,_,_,_,_,_,_,_,_,_,_,_,_,_,t,_=>absurd t (λu=>u)
 |_+1,0,_,_,_,_,_,_,_,_,_,_,_,_,_,_,t=>absurd t (λu=>u)
 |h+1,o+1,w,ka,na,kb,nb,la,lb,l,m,q,i,r,j,hA,hB=>by
  obtain⟨bl,b,aT,ah,bm,bn,aU,R⟩:=hA.parts;obtain⟨bo,d,aV,aj,bp,bq,aW,T⟩:=hB.parts;have aD:=lj (f:=h) (ka:=ka) (na:=na) (la:=la) (kb:=kb) (nb:=nb) (lb:=lb) ah R aj T;obtain rfl:=ah.len;obtain rfl:=aj.len;have V:Hid (bE (h+1) w (ai ka na la (J l (O b) i)).toList=bE (h+1) w (ai kb nb lb (J m (O d) j)).toList↔ka=kb/\na=nb/\b.map (bE h w)=d.map (bE h w)):=aD;clear aD
  have aX:Hid (∀(o:Nat) {w:World} {ka na kb nb:Int} {la lb:Value} {l m:OA} {q i r j:Nat},af S G h w (ai ka na la (J l q i)).toList->af S' aq o w (ai kb nb lb (J m r j)).toList->
   Calls Tryz.prog 10 #[.agg (ai ka na la (J l q i)),.agg (ai kb nb lb (J m r j))] w (fB w (bE h w (ai ka na la (J l q i)).toList=bE h w (ai kb nb lb (J m r j)).toList))):=λo=>sI h o
  have W:Below (E (U w)) w ((w.alloc (Ob (ai ka na la (J l (O b) i)) 39)).alloc (Ob (ai kb nb lb (J m (O d) j)) 39)):=bV w _ _;by_cases ar:ka=kb
  ·subst ar;by_cases t:na=nb
   ·subst t;by_cases X:O b=O d
    ·have br:((O b:Int)==(O d:Int))=true:=by simp[X]
     have aY:((O b:Int) !=(O d:Int))=false:=by simp[X]
     have aE:Hid (O b=O d):=X;clear X;go_enter Tryz.func10,Tryz.ntmps10
     go_wp2_with fail;go_loopg [5,30] (O b) (λaZ _ a0 wr=>∃a:Nat,aZ=O b - a/\a0=vN a/\a<=O b/\(∀k:Nat,k<a->(b[k]?).map (bE h w)=(d[k]?).map (bE h w))/\Below (E (U w)+2) ((w.alloc (Ob (ai ka na la (J l (O b) i)) 39)).alloc (Ob (ai ka na lb (J m (O d) j)) 39)) wr)
     case atStart=>exact⟨0,Q,Q,zL _,λk aF=>absurd aF (Nat.not_lt_zero _),Below.refl _ _⟩
     case round=>
      obtain⟨a,aG,rfl,bs,aH,Y⟩:=hrel;have a1:Hid (gk=O b - a):=aG;have aI:Hid (∀k:Nat,k<a->(b[k]?).map (bE h w)=(d[k]?).map (bE h w)):=aH;clear aG aH;have n:Below (E (U w)) w wr:=W.trans (Y.mono (Nat.le_add_right _ 2));by_cases Z:a<O b
      ·have ak:a<O d:=by rw[<-aE.out];exact Z
       obtain⟨s,a2,aJ,bt,a3,au⟩:=ah.nth (λu av=>af.four _ _ (R u av)) Z;obtain⟨v,a4,aK,bu,a5,aw⟩:=aj.nth (λu av=>af.four _ _ (T u av)) ak;have ax:b[a]∈b:=List.getElem_mem Z;have ay:d[a]∈d:=List.getElem_mem ak;obtain⟨x,y,z,A,B,C,al1,D,az⟩:=af.cells _ (R _ ax);obtain⟨F,H,K,L,M,N,eI,P,aA⟩:=af.cells _ (T _ ay);have ao:=R _ ax;have ap:=T _ ay;rw[az] at au ao;rw[aA] at aw ap;have a6:Hid ((b[a]?).map (bE h w)=some (bE h w (ai x y (J z A B) (J C al1 D)).toList)):=by show(b[a]?).map (bE h w)=_;rw[gG Z,az];rfl
       have a7:Hid ((d[a]?).map (bE h w)=some (bE h w (ai F H (J K L M) (J N eI P)).toList)):=by show(d[a]?).map (bE h w)=_;rw[gG ak,aA];rfl
       clear az aA ax ay;obtain⟨rfl,rfl⟩:l=some ⟨s,0,I⟩/\i=a2:=sU aJ;obtain⟨rfl,rfl⟩:m=some ⟨v,0,I⟩/\j=a4:=sU aK;clear aJ aK;have a8:=Y.size;have a9:E (U w)+2<=E (U wr):=sU a8;have bv:s<E (U wr):=oM;have bw:v<E (U wr):=oM;have bx:E (U w)<E (U wr):=oM;have bz:E (U w)+1<E (U wr):=oM;have bA:∀c,wr.cell? ⟨E (U w),c,I⟩=(ai ka na la (J (aS s) (O b) i))[c]? :=λc=>(Y.cell (p:=⟨E (U w),c,I⟩) sQ).trans (by rw[World.cell?_of_block (w:=w.alloc (Ob (ai ka na la (J (aS s) (O b) i)) 39)) (Below.heap_alloc _ _ _ sQ),cell_of_row _ _ c _ 39 (0,0) (heap_alloc_new _ _)]);have bB:∀c,wr.cell? ⟨E (U w)+1,c,I⟩=(ai ka na lb (J (aS v) (O d) j))[c]? :=λc=>(Y.cell (p:=⟨E (U w)+1,c,I⟩) sQ).trans (by have:=cell_of_row _ _ c _ 39 (0,0) (heap_alloc_new (w.alloc (Ob (ai ka na la (J (aS s) (O b) i)) 39)) (Ob (ai ka na lb (J (aS v) (O d) j)) 39));first|(simp;done)|(simpa using this));have aa:∀c,c<4->wr.cell? ⟨s,a*4+c,I⟩=(ai x y (J z A B) (J C al1 D))[c]? :=λc aB=>(n.cell (p:=⟨s,a*4+c,I⟩) a3).trans ((au c aB).trans sQ);have ab:∀c,c<4->wr.cell? ⟨v,a*4+c,I⟩=(ai F H (J K L M) (J N eI P))[c]? :=λc aB=>(n.cell (p:=⟨v,a*4+c,I⟩) a5).trans ((aw c aB).trans sQ);clear au aw;have a':=aa 0 dC;have bC:=aa 1 dC;have ac:=aa 2 dC;have aC:=aa 3 dC;have ba:=ab 0 dC;have bD:=ab 1 dC;have bF:=ab 2 dC;have bG:=ab 3 dC;clear aa ab;simp only[Nat.add_zero] at a' ba;have aL:(a:Int)<(O b:Int):=oM;have bH:(a:Int)<(O d:Int):=oH ak;have bI:(O b:Int)<=30000:=oM;have aM:al S w wr:=al.below n;have aN:al S' w wr:=al.below n;have FA:Hid (bE h wr.drew (ai x y (J z A B) (J C al1 D)).toList=bE h w (ai x y (J z A B) (J C al1 D)).toList):=dy (al.below n.drew) n.size _ _ ao h;have aO:Hid (bE h wr.drew (ai F H (J K L M) (J N eI P)).toList=bE h w (ai F H (J K L M) (J N eI P)).toList):=dy (al.below n.drew) n.size _ _ ap h;have bb:Hid (af S G h wr (ai x y (J z A B) (J C al1 D)).toList):=af.frame aM n.size _ _ ao;have bc:Hid (af S' aq o wr (ai F H (J K L M) (J N eI P)).toList):=af.frame aN n.size _ _ ap;clear ao ap aM aN ah aj R T aT aV aU aW;go_upto_region 6 with fail
       go_cut [44] (λbd bf=>∃ad:Bool,bd=.bool (!ad)/\(ad=true↔(b[a]?).map (bE h w)=(d[a]?).map (bE h w))/\Below (E (U w)+2) ((w.alloc (Ob (ai ka na la (J (aS s) (O b) i)) 39)).alloc (Ob (ai ka na lb (J (aS v) (O d) j)) 39)) bf)
       case first=>
        go_region_with (go_at_call 10;refine(aX.out o (af.frame (al.drew _ _) (lR _) _ _ bb.out) (af.frame (al.drew _ _) (lR _) _ _ bc.out)).mono ?_;rintro e bJ ⟨bg,rfl,bh,bi⟩)
        all_goals
         go_wp2_with fail;go_meet;refine⟨bg,Q,?_,Y.trans ?_⟩
         ·rw[a6.out,a7.out];refine bh.trans ⟨λe=>?_,λe=>?_⟩
          ·have ae:bE h wr.drew (ai x y (J z A B) (J C al1 D)).toList=bE h wr.drew (ai F H (J K L M) (J N eI P)).toList:=e;rw[FA.out,aO.out] at ae;rw[ae]
          ·have ae:=Option.some.inj e;rw[<-FA.out,<-aO.out] at ae;exact ae
         ·exact(Below.refl _ wr).drew.trans (bi.mono a9)
       case rest=>
        obtain⟨ad,rfl,aP,aQ⟩:=hcut;have aR:Hid (ad=true↔(b[a]?).map (bE h w)=(d[a]?).map (bE h w)):=aP;clear aP;have bj:Below (E (U w)) w wc:=W.trans (aQ.mono (Nat.le_add_right _ 2))
        cases ad
        ·go_wp2_with fail;go_ret;refine⟨false,Q,⟨λe=>absurd e dC,λe=>?_⟩,bj⟩;have ac:=(V.out.1 e).2.2;have aC:=congrArg (λbk=>bk[a]?) ac;simp only[List.getElem?_map] at aC;exact absurd (aR.out.2 aC) sQ
        ·go_wp2_with fail;go_roundg (O b - (a+1))
         case measure=>rw[a1.out];omega
         case rel=>
          refine⟨a+1,Q,by go_num,Z,λk aF=>?_,aQ⟩;rcases Nat.lt_or_ge k a with ag|ag
          ·exact aI.out k ag
          ·obtain rfl:k=a:=oM;exact aR.out.1 (by first|rfl|trivial)
      ·have aL:¬(a:Int)<(O b:Int):=oM;have bK:decide ((a:Int)<(O b:Int))=false:=sU aL;go_wp2_with fail;go_ret;refine⟨true,Q,⟨λ_=>V.out.2 ⟨by first|rfl|trivial,by first|rfl|trivial,?_⟩,λ_=>rfl⟩,n⟩;apply List.ext_getElem?
       intro k;rw[List.getElem?_map,List.getElem?_map];rcases Nat.lt_or_ge k a with ag|ag
       ·exact aI.out k ag
       ·have bL:=aE.out;rw[List.getElem?_eq_none oM,List.getElem?_eq_none oM]
    ·have aY:((O b:Int) !=(O d:Int))=true:=by simp;omega
     go_enter Tryz.func10,Tryz.ntmps10
     go_wp2_with fail;go_ret;refine⟨false,Q,⟨λe=>absurd e dC,λe=>?_⟩,W⟩;have ac:=congrArg List.length (V.out.1 e).2.2;simp at ac;exact absurd ac X
   ·have bM:(na !=nb)=true:=sU t;go_enter Tryz.func10,Tryz.ntmps10
    go_wp2_with fail;go_ret;exact⟨false,Q,⟨λe=>absurd e dC,λe=>absurd (V.out.1 e).2.1 t⟩,W⟩
  ·have bN:(ka !=kb)=true:=sU ar;go_enter Tryz.func10,Tryz.ntmps10
   go_wp2_with fail;go_ret;exact⟨false,Q,⟨λe=>absurd e dC,λe=>absurd (V.out.1 e).1 ar⟩,W⟩
end Go.Proofs.YtcnnibahjmekdaaGreat
