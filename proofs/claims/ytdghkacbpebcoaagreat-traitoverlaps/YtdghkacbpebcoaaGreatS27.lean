import Derived.Test.YtdghkacbpebcoaaGreatS26
namespace Go.Proofs.YtdghkacbpebcoaaGreat
open Go.RowKit
open Value renaming slice→J
open List renaming length→O
open Option renaming none→I
open World renaming heap→U
open _root_.Array renaming size→E
open Obj renaming cells→Ob
set_option linter.all false
set_option maxRecDepth 100000
set_option maxHeartbeats 0
section
variable{h:Nat} {S S':Nat->Prop} {w:World}
def dP (w:World) (P:Prop) (e:Ending) (w':World):Prop:=∃b,e=.returned (.bool b)/\(b=true↔P)/\Below (E (U w)) w w'
theorem af.parts {G:Int->Int->Nat->Nat->Prop} {kind n:Int} {lv c:Value} (e:af S G (h+1) w (ak kind n lv c).toList):∃(b:List Int) (a:VV),ro w S 1 lv (O b) (aN b)/\ro w S 4 c (O a) a.flatten/\O b<=30000/\O a<=30000/\G kind n (O b) (O a)/\∀f∈a,af S G h w f:=by
 obtain⟨p,q,r,s,b,a,d,i,j,k,l,m,o⟩:=e;simp at d;obtain⟨rfl,rfl,rfl,rfl⟩:=d;exact⟨b,a,i,j,k,l,m,o⟩
theorem af.cells {G:Int->Int->Nat->Nat->Prop}:(h:Nat)->∀{w:World} {e:List Value},af S G h w e->∃b d f i j k l m,e=(ak b d (J f i j) (J k l m)).toList
 |0,_,_,hn=>absurd hn (λn=>n)
 |_+1,_,_,⟨b,d,lv,av,ls,vs,h1,⟨a,c,e1,_⟩,⟨a',c',e2,_⟩,_⟩=>⟨b,d,a,O ls,c,a',O vs,c',by rw[h1,e1,e2]⟩
theorem ro.len {size:Nat} {b:OA} {n m c:Nat} {xs:List Value} (h:ro w S size (J b n c) m xs):n=m:=by
 obtain⟨d,e,a,_⟩:=h;simp at a;exact a.2.1
theorem nU {G i:Int->Int->Nat->Nat->Prop} {j f:Nat} {ka na kb nb:Int} {la d lb e:Value} {b c:VV} (k:ro w S 4 d (O b) b.flatten) (l:∀x∈b,af S G h w x) (m:ro w S' 4 e (O c) c.flatten) (n:∀x∈c,af S' i j w x):
 cS (f+1) w (ak ka na la d).toList=cS (f+1) w (ak kb nb lb e).toList↔ka=kb/\na=nb/\b.map (cS f w)=c.map (cS f w):=by
 rw[kf k l,kf m n];constructor
 ·intro a;simp only[Value.agg.injEq,Array.mk.injEq,List.cons.injEq,Value.int.injEq,and_true,true_and] at a;exact⟨a.1.1,a.1.2,a.2⟩
 ·rintro⟨rfl,rfl,a⟩;rw[a]
theorem sx {G ap:Int->Int->Nat->Nat->Prop}:(h o:Nat)->∀{w:World} {ka na kb nb:Int} {la lb:Value} {l m:OA} {q i r j:Nat},af S G h w (ak ka na la (J l q i)).toList->af S' ap o w (ak kb nb lb (J m r j)).toList->
 Calls Tryz.prog 100 #[.agg (ak ka na la (J l q i)),.agg (ak kb nb lb (J m r j))] w (dP w (cS h w (ak ka na la (J l q i)).toList=cS h w (ak kb nb lb (J m r j)).toList))
 |0,_,_,_,_,_,_,_,_,_,_,_,_,_,_,t,_=>absurd t (λu=>u)
 |_+1,0,_,_,_,_,_,_,_,_,_,_,_,_,_,_,t=>absurd t (λu=>u)
 |h+1,o+1,w,ka,na,kb,nb,la,lb,l,m,q,i,r,j,hA,hB=>by
  obtain⟨bl,b,aT,ah,bm,bn,aU,R⟩:=hA.parts;obtain⟨bo,d,aV,ai,bp,bq,aW,T⟩:=hB.parts;have aD:=nU (f:=h) (ka:=ka) (na:=na) (la:=la) (kb:=kb) (nb:=nb) (lb:=lb) ah R ai T;obtain rfl:=ah.len;obtain rfl:=ai.len;have V:Hid (cS (h+1) w (ak ka na la (J l (O b) i)).toList=cS (h+1) w (ak kb nb lb (J m (O d) j)).toList↔ka=kb/\na=nb/\b.map (cS h w)=d.map (cS h w)):=aD;clear aD
  have aX:Hid (∀(o:Nat) {w:World} {ka na kb nb:Int} {la lb:Value} {l m:OA} {q i r j:Nat},af S G h w (ak ka na la (J l q i)).toList->af S' ap o w (ak kb nb lb (J m r j)).toList->
   Calls Tryz.prog 100 #[.agg (ak ka na la (J l q i)),.agg (ak kb nb lb (J m r j))] w (dP w (cS h w (ak ka na la (J l q i)).toList=cS h w (ak kb nb lb (J m r j)).toList))):=λo=>sx h o
  have W:Below (E (U w)) w ((w.alloc (Ob (ak ka na la (J l (O b) i)) 41)).alloc (Ob (ak kb nb lb (J m (O d) j)) 41)):=bY w _ _;by_cases ar:ka=kb
  ·subst ar;by_cases t:na=nb
   ·subst t;by_cases X:O b=O d
    ·have br:((O b:Int)==(O d:Int))=true:=by simp[X]
     have aY:((O b:Int) !=(O d:Int))=false:=by simp[X]
     have aE:Hid (O b=O d):=X;clear X;go_enter Tryz.func100,Tryz.ntmps100
     go_wp2_with fail;go_loopg [5,30] (O b) (λaZ _ a0 wr=>∃a:Nat,aZ=O b - a/\a0=vN a/\a<=O b/\(∀k:Nat,k<a->(b[k]?).map (cS h w)=(d[k]?).map (cS h w))/\Below (E (U w)+2) ((w.alloc (Ob (ak ka na la (J l (O b) i)) 41)).alloc (Ob (ak ka na lb (J m (O d) j)) 41)) wr)
     case atStart=>exact⟨0,Q,Q,zL _,λk aF=>absurd aF (Nat.not_lt_zero _),Below.refl _ _⟩
     case round=>
      obtain⟨a,aG,rfl,bs,aH,Y⟩:=hrel;have a1:Hid (gk=O b - a):=aG;have aI:Hid (∀k:Nat,k<a->(b[k]?).map (cS h w)=(d[k]?).map (cS h w)):=aH;clear aG aH;have n:Below (E (U w)) w wr:=W.trans (Y.mono (Nat.le_add_right _ 2));by_cases Z:a<O b
      ·have aj:a<O d:=by rw[<-aE.out];exact Z
       obtain⟨s,a2,aJ,bt,a3,au⟩:=ah.nth (λu av=>af.four _ _ (R u av)) Z;obtain⟨v,a4,aK,bu,a5,aw⟩:=ai.nth (λu av=>af.four _ _ (T u av)) aj;have ax:b[a]∈b:=List.getElem_mem Z;have ay:d[a]∈d:=List.getElem_mem aj;obtain⟨x,y,z,A,B,C,al1,D,az⟩:=af.cells _ (R _ ax);obtain⟨F,H,K,L,M,N,dW,P,aA⟩:=af.cells _ (T _ ay);have al:=R _ ax;have ao:=T _ ay;rw[az] at au al;rw[aA] at aw ao;have a6:Hid ((b[a]?).map (cS h w)=some (cS h w (ak x y (J z A B) (J C al1 D)).toList)):=by show(b[a]?).map (cS h w)=_;rw[gG Z,az];rfl
       have a7:Hid ((d[a]?).map (cS h w)=some (cS h w (ak F H (J K L M) (J N dW P)).toList)):=by show(d[a]?).map (cS h w)=_;rw[gG aj,aA];rfl
       clear az aA ax ay;obtain⟨rfl,rfl⟩:l=some ⟨s,0,I⟩/\i=a2:=sU aJ;obtain⟨rfl,rfl⟩:m=some ⟨v,0,I⟩/\j=a4:=sU aK;clear aJ aK;have a8:=Y.size;have a9:E (U w)+2<=E (U wr):=sU a8;have bv:s<E (U wr):=oM;have bw:v<E (U wr):=oM;have bx:E (U w)<E (U wr):=oM;have bz:E (U w)+1<E (U wr):=oM;have bA:∀c,wr.cell? ⟨E (U w),c,I⟩=(ak ka na la (J (aS s) (O b) i))[c]? :=λc=>(Y.cell (p:=⟨E (U w),c,I⟩) sQ).trans (by rw[World.cell?_of_block (w:=w.alloc (Ob (ak ka na la (J (aS s) (O b) i)) 41)) (Below.heap_alloc _ _ _ sQ),cell_of_row _ _ c _ 41 (0,0) (heap_alloc_new _ _)]);have bB:∀c,wr.cell? ⟨E (U w)+1,c,I⟩=(ak ka na lb (J (aS v) (O d) j))[c]? :=λc=>(Y.cell (p:=⟨E (U w)+1,c,I⟩) sQ).trans (by have:=cell_of_row _ _ c _ 41 (0,0) (heap_alloc_new (w.alloc (Ob (ak ka na la (J (aS s) (O b) i)) 41)) (Ob (ak ka na lb (J (aS v) (O d) j)) 41));first|(simp;done)|(simpa using this));have aa:∀c,c<4->wr.cell? ⟨s,a*4+c,I⟩=(ak x y (J z A B) (J C al1 D))[c]? :=λc aB=>(n.cell (p:=⟨s,a*4+c,I⟩) a3).trans ((au c aB).trans sQ);have ab:∀c,c<4->wr.cell? ⟨v,a*4+c,I⟩=(ak F H (J K L M) (J N dW P))[c]? :=λc aB=>(n.cell (p:=⟨v,a*4+c,I⟩) a5).trans ((aw c aB).trans sQ);clear au aw;have a':=aa 0 dC;have bC:=aa 1 dC;have ac:=aa 2 dC;have aC:=aa 3 dC;have ba:=ab 0 dC;have bD:=ab 1 dC;have bE:=ab 2 dC;have bF:=ab 3 dC;clear aa ab;simp only[Nat.add_zero] at a' ba;have aL:(a:Int)<(O b:Int):=oM;have bG:(a:Int)<(O d:Int):=oH aj;have bH:(O b:Int)<=30000:=oM;have aM:aq S w wr:=aq.below n;have aN:aq S' w wr:=aq.below n;have FA:Hid (cS h wr.drew (ak x y (J z A B) (J C al1 D)).toList=cS h w (ak x y (J z A B) (J C al1 D)).toList):=fG (aq.below n.drew) n.size _ _ al h;have aO:Hid (cS h wr.drew (ak F H (J K L M) (J N dW P)).toList=cS h w (ak F H (J K L M) (J N dW P)).toList):=fG (aq.below n.drew) n.size _ _ ao h;have bb:Hid (af S G h wr (ak x y (J z A B) (J C al1 D)).toList):=af.frame aM n.size _ _ al;have bc:Hid (af S' ap o wr (ak F H (J K L M) (J N dW P)).toList):=af.frame aN n.size _ _ ao;clear al ao aM aN ah ai R T aT aV aU aW;go_upto_region 6 with fail
       go_cut [44] (λbd bf=>∃ad:Bool,bd=.bool (!ad)/\(ad=true↔(b[a]?).map (cS h w)=(d[a]?).map (cS h w))/\Below (E (U w)+2) ((w.alloc (Ob (ak ka na la (J (aS s) (O b) i)) 41)).alloc (Ob (ak ka na lb (J (aS v) (O d) j)) 41)) bf)
       case first=>
        go_region_with (go_at_call 100;refine(aX.out o (af.frame (aq.drew _ _) (lR _) _ _ bb.out) (af.frame (aq.drew _ _) (lR _) _ _ bc.out)).mono ?_;rintro e bI ⟨bg,rfl,bh,bi⟩)
        all_goals
         go_wp2_with fail;go_meet;refine⟨bg,Q,?_,Y.trans ?_⟩
         ·rw[a6.out,a7.out];refine bh.trans ⟨λe=>?_,λe=>?_⟩
          ·have ae:cS h wr.drew (ak x y (J z A B) (J C al1 D)).toList=cS h wr.drew (ak F H (J K L M) (J N dW P)).toList:=e;rw[FA.out,aO.out] at ae;rw[ae]
          ·have ae:=Option.some.inj e;rw[<-FA.out,<-aO.out] at ae;exact ae
         ·exact(Below.refl _ wr).drew.trans (bi.mono a9)
       case rest=>
        obtain⟨ad,rfl,aP,aQ⟩:=hcut;have aR:Hid (ad=true↔(b[a]?).map (cS h w)=(d[a]?).map (cS h w)):=aP;clear aP;have bj:Below (E (U w)) w wc:=W.trans (aQ.mono (Nat.le_add_right _ 2))
        cases ad
        ·go_wp2_with fail;go_ret;refine⟨false,Q,⟨λe=>absurd e dC,λe=>?_⟩,bj⟩;have ac:=(V.out.1 e).2.2;have aC:=congrArg (λbk=>bk[a]?) ac;simp only[List.getElem?_map] at aC;exact absurd (aR.out.2 aC) sQ
        ·go_wp2_with fail;go_roundg (O b - (a+1))
         case measure=>rw[a1.out];omega
         case rel=>
          refine⟨a+1,Q,by go_num,Z,λk aF=>?_,aQ⟩;rcases Nat.lt_or_ge k a with ag|ag
          ·exact aI.out k ag
          ·obtain rfl:k=a:=oM;exact aR.out.1 (by first|rfl|trivial)
      ·have aL:¬(a:Int)<(O b:Int):=oM;have bJ:decide ((a:Int)<(O b:Int))=false:=sU aL;go_wp2_with fail;go_ret;refine⟨true,Q,⟨λ_=>V.out.2 ⟨by first|rfl|trivial,by first|rfl|trivial,?_⟩,λ_=>rfl⟩,n⟩;apply List.ext_getElem?
       intro k;rw[List.getElem?_map,List.getElem?_map];rcases Nat.lt_or_ge k a with ag|ag
       ·exact aI.out k ag
       ·have bK:=aE.out;rw[List.getElem?_eq_none oM,List.getElem?_eq_none oM]
    ·have aY:((O b:Int) !=(O d:Int))=true:=by simp;omega
     go_enter Tryz.func100,Tryz.ntmps100
     go_wp2_with fail;go_ret;refine⟨false,Q,⟨λe=>absurd e dC,λe=>?_⟩,W⟩;have ac:=congrArg List.length (V.out.1 e).2.2;simp at ac;exact absurd ac X
   ·have bL:(na !=nb)=true:=sU t;go_enter Tryz.func100,Tryz.ntmps100
    go_wp2_with fail;go_ret;exact⟨false,Q,⟨λe=>absurd e dC,λe=>absurd (V.out.1 e).2.1 t⟩,W⟩
  ·have bM:(ka !=kb)=true:=sU ar;go_enter Tryz.func100,Tryz.ntmps100
   go_wp2_with fail;go_ret;exact⟨false,Q,⟨λe=>absurd e dC,λe=>absurd (V.out.1 e).1 ar⟩,W⟩
theorem ro.int {w:World} {S:Nat->Prop} {v:Value} {ls:List Int} (h:ro w S 1 v (O ls) (aN ls)) {i:Nat} (b:i<O ls):∃g a,v=J (aS g) (O ls) a/\S g/\g<E (U w)/\w.cell? ⟨g,i,I⟩=some (vN ls[i]):=by
 obtain⟨f,a,rfl,j,c⟩:=h;obtain⟨g,rfl,hS,d,e⟩:=c oM;refine⟨g,a,Q,hS,d,?_⟩;rw[e i oM];unfold aN;rw[List.getElem?_map,gG b];rfl
end
end Go.Proofs.YtdghkacbpebcoaaGreat
