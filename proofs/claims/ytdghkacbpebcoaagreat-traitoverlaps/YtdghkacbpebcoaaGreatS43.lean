import Derived.Test.YtdghkacbpebcoaaGreatS27
namespace Go.Proofs.YtdghkacbpebcoaaGreat
open Go.RowKit
open Value renaming slice→J
open List renaming length→O
open Option renaming none→I
open World renaming heap→U
open _root_.Array renaming size→E
open Obj renaming cells→Ob
set_option linter.all false
set_option maxRecDepth 100000
set_option maxHeartbeats 0
section
variable{S S':Nat->Prop} {w:World}
def fS:Nat->World->List Value->List Value->Prop
 |0,_,_,_=>True
 |h+1,w,a,b=>a[0]? =some (vN 5)\/b[0]? =some (vN 5)\/(a.take 2=b.take 2/\O (rowAt w 4 (lF a))=O (rowAt w 4 (lF b))/\∀(j:Nat) x y,(rowAt w 4 (lF a))[j]? =some x->(rowAt w 4 (lF b))[j]? =some y->fS h w x y)
theorem j1 {G l:Int->Int->Nat->Nat->Prop} {h i f:Nat} {ka na kb nb:Int} {la c lb d:Value} {a b:VV} (m:ro w S 4 c (O a) a.flatten) (n:∀x∈a,af S G h w x) (o:ro w S' 4 d (O b) b.flatten) (p:∀x∈b,af S' l i w x):
 fS (f+1) w (ak ka na la c).toList (ak kb nb lb d).toList↔ka=5\/kb=5\/(ka=kb/\na=nb/\O a=O b/\∀(j:Nat) x k,a[j]? =some x->b[j]? =some k->fS f w x k):=by
 have q:rowAt w 4 (lF (ak ka na la c).toList)=a:=fB m (λx e=>af.four h x (n x e));have r:rowAt w 4 (lF (ak kb nb lb d).toList)=b:=fB o (λx e=>af.four i x (p x e));have s:(ak ka na la c).toList[0]? =some (vN 5)↔ka=5:=by show some (Value.int .i64 ka)=_↔_;simp
 have t:(ak kb nb lb d).toList[0]? =some (vN 5)↔kb=5:=by show some (Value.int .i64 kb)=_↔_;simp
 have u:(ak ka na la c).toList.take 2=(ak kb nb lb d).toList.take 2↔ka=kb/\na=nb:=by show [Value.int .i64 ka,vN na]=[Value.int .i64 kb,vN nb]↔_;simp
 show(_\/_\/(_/\_/\_))↔_;rw[q,r,s,t,u,and_assoc]
theorem jh:(h:Nat)->∀{w:World} {a b:List Value},fS h w a b->fS h w b a
 |0,_,_,_,_=>trivial
 |_+1,_,_,_,.inl e=>.inr (.inl e)
 |_+1,_,_,_,.inr (.inl e)=>.inl e
 |h+1,_,_,_,.inr (.inr ⟨e1,e2,e3⟩)=>.inr (.inr ⟨e1.symm,e2.symm,λc d f i j=>jh h (e3 c f d j i)⟩)
theorem dK {G o:Int->Int->Nat->Nat->Prop} {w':World} (i:aq S w w') (j:aq S' w w') (c:E (U w)<=E (U w')):(f h h':Nat)->∀{k l:List Value},af S G h w k->af S' o h' w l->(fS f w' k l↔fS f w k l)
 |0,_,_,_,_,_,_=>Iff.rfl
 |_+1,0,_,_,_,hn,_=>absurd hn (λa=>a)
 |_+1,_+1,0,_,_,_,hn=>absurd hn (λa=>a)
 |f+1,h+1,h'+1,_,_,⟨ka,na,la,aa,ls,va,h1,h2,h3,h4,h5,h6,h7⟩,⟨kb,nb,lb,ab,ls',vb,g1,g2,g3,g4,g5,g6,g7⟩=>by
  subst h1 g1;rw[j1 h3 h7 g3 g7,j1 (h3.frame i c) (λa b=>af.frame i c h a (h7 a b)) (g3.frame j c) (λa b=>af.frame j c h' a (g7 a b))];refine or_congr Iff.rfl (or_congr Iff.rfl (and_congr Iff.rfl (and_congr Iff.rfl (and_congr Iff.rfl ⟨λm n a d b e=>?_,λm n a d b e=>?_⟩))))
  ·exact(dK i j c f h h' (h7 a (mG b)) (g7 d (mG e))).1 (m n a d b e)
  ·exact(dK i j c f h h' (h7 a (mG b)) (g7 d (mG e))).2 (m n a d b e)
end
theorem kL {S S':Nat->Prop} {G aw:Int->Int->Nat->Nat->Prop}:(h t:Nat)->∀{w:World} {ka na kb nb:Int} {la lb:Value} {n o:OA} {u k v l:Nat},af S G h w (ak ka na la (J n u k)).toList->af S' aw t w (ak kb nb lb (J o v l)).toList->
 Calls Tryz.prog 9 #[.agg (ak ka na la (J n u k)),.agg (ak kb nb lb (J o v l))] w (dP w (fS h w (ak ka na la (J n u k)).toList (ak kb nb lb (J o v l)).toList))
 |0,_,_,_,_,_,_,_,_,_,_,_,_,_,_,r,_=>absurd r (λe=>e)
 |_+1,0,_,_,_,_,_,_,_,_,_,_,_,_,_,_,r=>absurd r (λe=>e)
 |h+1,t+1,w,ka,na,kb,nb,la,lb,n,o,u,k,v,l,hA,hB=>by
  obtain⟨bs,a,aW,ah,bt,bu,aX,W⟩:=hA.parts;obtain⟨bv,d,aY,ai,bw,bx,aZ,X⟩:=hB.parts;have aF:=j1 (f:=h) (ka:=ka) (na:=na) (la:=la) (kb:=kb) (nb:=nb) (lb:=lb) ah W ai X;obtain rfl:=ah.len;obtain rfl:=ai.len;have aj:Hid (fS (h+1) w (ak ka na la (J n (O a) k)).toList (ak kb nb lb (J o (O d) l)).toList↔ka=5\/kb=5\/(ka=kb/\na=nb/\O a=O d/\∀(i:Nat) e m,a[i]? =some e->d[i]? =some m->fS h w e m)):=aF;clear aF
  have a0:Hid (∀(t:Nat) {w:World} {ka na kb nb:Int} {la lb:Value} {n o:OA} {u k v l:Nat},af S G h w (ak ka na la (J n u k)).toList->af S' aw t w (ak kb nb lb (J o v l)).toList->
   Calls Tryz.prog 9 #[.agg (ak ka na la (J n u k)),.agg (ak kb nb lb (J o v l))] w (dP w (fS h w (ak ka na la (J n u k)).toList (ak kb nb lb (J o v l)).toList))):=λt=>kL h t
  have y:Below (E (U w)) w ((w.alloc (Ob (ak ka na la (J n (O a) k)) 41)).alloc (Ob (ak kb nb lb (J o (O d) l)) 41)):=bY w _ _;by_cases al:ka=5
  ·subst al;go_enter Tryz.func9,Tryz.ntmps9
   go_wp2_with fail;go_ret;exact⟨true,Q,⟨λ_=>aj.out.2 (.inl sQ),λ_=>rfl⟩,y⟩
  have bz:(ka==5)=false:=sU al;by_cases ao:kb=5
  ·subst ao;go_enter Tryz.func9,Tryz.ntmps9
   go_wp2_with fail;go_ret;exact⟨true,Q,⟨λ_=>aj.out.2 (.inr (.inl sQ)),λ_=>rfl⟩,y⟩
  have bA:(kb==5)=false:=sU ao;have Y:Hid (fS (h+1) w (ak ka na la (J n (O a) k)).toList (ak kb nb lb (J o (O d) l)).toList↔(ka=kb/\na=nb/\O a=O d/\∀(i:Nat) e m,a[i]? =some e->d[i]? =some m->fS h w e m)):=aj.out.trans ⟨λj=>(j.resolve_left al).resolve_left ao,λj=>.inr (.inr j)⟩;clear aj al ao;by_cases Z:ka=kb
  ·have a1:(ka !=kb)=false:=sU Z;have a2:Hid (ka=kb):=Z;clear Z;by_cases r:na=nb
   ·have a3:(na !=nb)=false:=sU r;have a4:Hid (na=nb):=r;clear r;by_cases ap:O a=O d
    ·have a5:((O a:Int) !=(O d:Int))=false:=by simp[ap]
     have aG:Hid (O a=O d):=ap;clear ap;go_enter Tryz.func9,Tryz.ntmps9
     go_wp2_with fail;go_loopg [5,38] (O a) (λa6 _ a7 wr=>∃b:Nat,a6=O a - b/\a7=vN b/\b<=O a/\(∀i:Nat,i<b->∀e m,a[i]? =some e->d[i]? =some m->fS h w e m)/\Below (E (U w)+2) ((w.alloc (Ob (ak ka na la (J n (O a) k)) 41)).alloc (Ob (ak kb nb lb (J o (O d) l)) 41)) wr)
     case atStart=>exact⟨0,Q,Q,zL _,λi aH=>absurd aH (Nat.not_lt_zero _),Below.refl _ _⟩
     case round=>
      obtain⟨b,aI,rfl,bB,aJ,aa⟩:=hrel;have a8:Hid (gk=O a - b):=aI;have aK:Hid (∀i:Nat,i<b->∀e m,a[i]? =some e->d[i]? =some m->fS h w e m):=aJ;clear aI aJ;have q:Below (E (U w)) w wr:=y.trans (aa.mono (Nat.le_add_right _ 2));by_cases ab:b<O a
      ·have ar:b<O d:=by rw[<-aG.out];exact ab
       obtain⟨x,a9,aL,bC,a',ax⟩:=ah.nth (λe s=>af.four _ _ (W e s)) ab;obtain⟨z,ba,aM,bD,bb,ay⟩:=ai.nth (λe s=>af.four _ _ (X e s)) ar;have az:a[b]∈a:=List.getElem_mem ab;have aA:d[b]∈d:=List.getElem_mem ar;obtain⟨A,B,C,D,F,H,al1,K,aB⟩:=af.cells _ (W _ az);obtain⟨L,M,N,P,R,T,dW,V,aC⟩:=af.cells _ (X _ aA);have au:=W _ az;have av:=X _ aA;rw[aB] at ax au;rw[aC] at ay av;have aN:Hid (a[b]? =some (ak A B (J C D F) (J H al1 K)).toList):=by show a[b]? =_;rw[gG ab,aB]
       have aO:Hid (d[b]? =some (ak L M (J N P R) (J T dW V)).toList):=by show d[b]? =_;rw[gG ar,aC]
       clear aB aC az aA;obtain⟨rfl,rfl⟩:n=some ⟨x,0,I⟩/\k=a9:=sU aL;obtain⟨rfl,rfl⟩:o=some ⟨z,0,I⟩/\l=ba:=sU aM;clear aL aM;have bc:=aa.size;have bd:E (U w)+2<=E (U wr):=sU bc;have bE:x<E (U wr):=oM;have bF:z<E (U wr):=oM;have bG:E (U w)<E (U wr):=oM;have bH:E (U w)+1<E (U wr):=oM;have bI:∀c,wr.cell? ⟨E (U w),c,I⟩=(ak ka na la (J (aS x) (O a) k))[c]? :=λc=>(aa.cell (p:=⟨E (U w),c,I⟩) sQ).trans (by rw[World.cell?_of_block (w:=w.alloc (Ob (ak ka na la (J (aS x) (O a) k)) 41)) (Below.heap_alloc _ _ _ sQ),cell_of_row _ _ c _ 41 (0,0) (heap_alloc_new _ _)]);have bJ:∀c,wr.cell? ⟨E (U w)+1,c,I⟩=(ak kb nb lb (J (aS z) (O d) l))[c]? :=λc=>(aa.cell (p:=⟨E (U w)+1,c,I⟩) sQ).trans (by have:=cell_of_row _ _ c _ 41 (0,0) (heap_alloc_new (w.alloc (Ob (ak ka na la (J (aS x) (O a) k)) 41)) (Ob (ak kb nb lb (J (aS z) (O d) l)) 41));first|(simp;done)|(simpa using this));have ac:∀c,c<4->wr.cell? ⟨x,b*4+c,I⟩=(ak A B (J C D F) (J H al1 K))[c]? :=λc aD=>(q.cell (p:=⟨x,b*4+c,I⟩) a').trans ((ax c aD).trans sQ);have ad:∀c,c<4->wr.cell? ⟨z,b*4+c,I⟩=(ak L M (J N P R) (J T dW V))[c]? :=λc aD=>(q.cell (p:=⟨z,b*4+c,I⟩) bb).trans ((ay c aD).trans sQ);clear ax ay;have bf:=ac 0 dC;have bK:=ac 1 dC;have bL:=ac 2 dC;have bM:=ac 3 dC;have bg:=ad 0 dC;have bN:=ad 1 dC;have bO:=ad 2 dC;have bP:=ad 3 dC;clear ac ad;simp only[Nat.add_zero] at bf bg;have aP:(b:Int)<(O a:Int):=oM;have bQ:(b:Int)<(O d:Int):=oH ar;have bR:(O a:Int)<=30000:=oM;have aQ:aq S w wr:=aq.below q;have aR:aq S' w wr:=aq.below q;have bh:Hid (fS h wr.drew (ak A B (J C D F) (J H al1 K)).toList (ak L M (J N P R) (J T dW V)).toList↔fS h w (ak A B (J C D F) (J H al1 K)).toList (ak L M (J N P R) (J T dW V)).toList):=dK (aq.below q.drew) (aq.below q.drew) q.size h _ _ au av;have bi:Hid (af S G h wr (ak A B (J C D F) (J H al1 K)).toList):=af.frame aQ q.size _ _ au;have bj:Hid (af S' aw t wr (ak L M (J N P R) (J T dW V)).toList):=af.frame aR q.size _ _ av;clear au av aQ aR ah ai W X aW aY aX aZ;go_upto_region 8 with fail
       go_cut [52] (λbk bl=>∃ae:Bool,bk=.bool (!ae)/\(ae=true↔fS h w (ak A B (J C D F) (J H al1 K)).toList (ak L M (J N P R) (J T dW V)).toList)/\Below (E (U w)+2) ((w.alloc (Ob (ak ka na la (J (aS x) (O a) k)) 41)).alloc (Ob (ak kb nb lb (J (aS z) (O d) l)) 41)) bl)
       case first=>
        go_region_with (go_at_call 9;refine(a0.out t (af.frame (aq.drew _ _) (lR _) _ _ bi.out) (af.frame (aq.drew _ _) (lR _) _ _ bj.out)).mono ?_;rintro j bS ⟨bm,rfl,bn,bo⟩)
        all_goals
         go_wp2_with fail;go_meet;refine⟨bm,Q,bn.trans bh.out,aa.trans ?_⟩;exact(Below.refl _ wr).drew.trans (bo.mono bd)
       case rest=>
        obtain⟨ae,rfl,aT,aU⟩:=hcut;have aV:Hid (ae=true↔fS h w (ak A B (J C D F) (J H al1 K)).toList (ak L M (J N P R) (J T dW V)).toList):=aT;clear aT;have bp:Below (E (U w)) w wc:=y.trans (aU.mono (Nat.le_add_right _ 2))
        cases ae
        ·go_wp2_with fail;go_ret;refine⟨false,Q,⟨λj=>absurd j dC,λj=>?_⟩,bp⟩;exact absurd (aV.out.2 ((Y.out.1 j).2.2.2 b _ _ aN.out aO.out)) sQ
        ·go_wp2_with fail;go_roundg (O a - (b+1))
         case measure=>rw[a8.out];omega
         case rel=>
          refine⟨b+1,Q,by go_num,ab,λi aH=>?_,aU⟩;rcases Nat.lt_or_ge i b with ag|ag
          ·exact aK.out i ag
          ·obtain rfl:i=b:=oM;intro e m s aE;have bq:=Option.some.inj (aN.out.symm.trans s);have br:=Option.some.inj (aO.out.symm.trans aE);subst bq br;exact aV.out.1 (by first|rfl|trivial)
      ·have aP:¬(b:Int)<(O a:Int):=oM;have bT:decide ((b:Int)<(O a:Int))=false:=sU aP;go_wp2_with fail;go_ret;refine⟨true,Q,⟨λ_=>Y.out.2 ⟨a2.out,a4.out,aG.out,λi e m s aE=>?_⟩,λ_=>rfl⟩,q⟩;rcases Nat.lt_or_ge i b with ag|ag
       ·exact aK.out i ag e m s aE
       ·rw[List.getElem?_eq_none oM] at s;exact absurd s sQ
    ·have a5:((O a:Int) !=(O d:Int))=true:=by simp;omega
     go_enter Tryz.func9,Tryz.ntmps9
     go_wp2_with fail;go_ret;exact⟨false,Q,⟨λj=>absurd j dC,λj=>absurd (Y.out.1 j).2.2.1 ap⟩,y⟩
   ·have a3:(na !=nb)=true:=sU r;go_enter Tryz.func9,Tryz.ntmps9
    go_wp2_with fail;go_ret;exact⟨false,Q,⟨λj=>absurd j dC,λj=>absurd (Y.out.1 j).2.1 r⟩,y⟩
  ·have a1:(ka !=kb)=true:=sU Z;go_enter Tryz.func9,Tryz.ntmps9
   go_wp2_with fail;go_ret;exact⟨false,Q,⟨λj=>absurd j dC,λj=>absurd (Y.out.1 j).1 Z⟩,y⟩
theorem kX {w:World} {ka na kb nb:Int} {la lb e f:Value}:Calls Tryz.prog 13 #[.agg (ak ka na la e),.agg (ak kb nb lb f)] w (dP w (ka=5\/kb=5)):=by
 have d:Below (E (U w)) w ((w.alloc (Ob (ak ka na la e) 41)).alloc (Ob (ak kb nb lb f) 41)):=bY w _ _;by_cases b:ka=5
 ·subst b;go_enter Tryz.func13,Tryz.ntmps13
  go_wp2_with fail;go_ret;exact⟨true,Q,⟨λ_=>.inl sQ,λ_=>rfl⟩,d⟩
 have j:(ka==5)=false:=sU b;by_cases c:kb=5
 ·subst c;go_enter Tryz.func13,Tryz.ntmps13
  go_wp2_with fail;go_ret;exact⟨true,Q,⟨λ_=>.inr sQ,λ_=>rfl⟩,d⟩
 have k:(kb==5)=false:=sU c;have i:Hid (¬(ka=5\/kb=5)):=λa=>a.elim b c;clear b c;go_enter Tryz.func13,Tryz.ntmps13
 go_wp2_with fail;go_ret;exact⟨false,Q,⟨λa=>absurd a dC,λa=>absurd a i.out⟩,d⟩
end Go.Proofs.YtdghkacbpebcoaaGreat
