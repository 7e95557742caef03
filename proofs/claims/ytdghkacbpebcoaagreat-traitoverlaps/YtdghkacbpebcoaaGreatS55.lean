/- Proved: holdfastlaw.TraitOverlaps answers true, and leaves its argument as it was, whatever text it is called with: of the impls of the program that the text makes, the program and the document find the same first one that is of one type with an earlier one, and call the same two types ones that overlap. No condition. -/
import Derived.Test.YtdghkacbpebcoaaGreatRows
import Derived.ProofKit
import Derived.OpenShut
import Derived.SizedLaws
import Derived.ChangeMaps5
import Derived.Test.YtdghkacbpebcoaaGreatS54
namespace Go.Proofs.YtdghkacbpebcoaaGreat
open Go.RowKit
open Value renaming slice→J
open List renaming length→O
open Option renaming none→I
open World renaming heap→U
open _root_.Array renaming size→E
open Obj renaming cells→Ob
set_option linter.all false
set_option maxRecDepth 100000
set_option maxHeartbeats 0
theorem xH (s:ByteArray) (w:World) (aV:s.size<=maxLen):Calls Tryz.prog 4 #[.string s] w (gD w):=by
 obtain⟨ao,ab,ac⟩:=dW w (Ob (eL (J I 0 0) (J I 0 0) (J I 0 0) (J I 0 0) (J I 0 0) 0 (J I 0 0)) 29) (Ob #[vN 0,vN 0] 32);obtain⟨f,ad⟩:∃f,f=(w.alloc (Ob (eL (J I 0 0) (J I 0 0) (J I 0 0) (J I 0 0) (J I 0 0) 0 (J I 0 0)) 29)).alloc (Ob #[vN 0,vN 0] 32):=⟨_,Q⟩;rw[<-ad] at ao ab ac;have aW:Hid (Calls Tryz.prog 10 #[.string s] f (ir f)):=vX s f aV;have aX:E (U f)=E (U w)+2:=by rw[ad];simp
 go_enter Tryz.func4,Tryz.ntmps4
 go_upto_region 1 with fail
 generalize hq:World.alloc (World.alloc w _) _=aY;obtain rfl:f=aY:=ad.trans hq;clear hq ad;go_upto_region 2 with(go_at_call 10;refine aW.out.mono ?_;rintro bt i ⟨n,pos,o,p,q,r,t,u,j,ap,rfl,v,az⟩)
 obtain⟨k,af,ag⟩:=dW i (Ob (ae n pos o p q (J r t u)) 48) (Ob #[vN j,vN ap] 32);generalize hq:World.alloc (World.alloc i _) _=a;have aA:(i.alloc (Ob (ae n pos o p q (J r t u)) 48)).alloc (Ob #[vN j,vN ap] 32)=a:=hq;rw[aA] at k af ag;have aZ:=k.size;have a0:=v.size;clear hq aA;obtain⟨x,aB⟩:∃x,x=E (U i):=⟨_,Q⟩;obtain⟨y,aC⟩:∃y,y=E (U i)+1:=⟨_,Q⟩;rw[<-aC] at ag⊢;rw[<-aB] at af⊢;obtain⟨d,aD⟩:∃d,d=E (U w):=⟨_,Q⟩;obtain⟨c,aE⟩:∃c,c=E (U w)+1:=⟨_,Q⟩;rw[<-aE] at ac⊢;rw[<-aD] at ab⊢;have z:a.heap[d]? =some (Ob (eL (J I 0 0) (J I 0 0) (J I 0 0) (J I 0 0) (J I 0 0) 0 (J I 0 0)) 29 (0,0)):=(k.block _ oM).trans ((v.block _ oM).trans ab);have A:a.heap[c]? =some (Ob #[vN 0,vN 0] 32 (0,0)):=(k.block _ oM).trans ((v.block _ oM).trans ac);have ar:Below (E (U w)) w a:=(ao.trans (v.mono oM)).trans (k.mono oM);have aF:d≠c:=oM;have a1:c≠d:=oM;have bu:d≠x:=oM;have bv:c≠x:=oM;have bw:d≠y:=oM;have bx:c≠y:=oM;have aH:E (U w)<=d:=oM;have aI:E (U w)<=c:=oM
 have aJ:Hid (j=0->n=0/\∃h,isNode (λl=>l<E (U a)) True (h+6) a (ae n pos o p q (J r t u)).toList/\aG (h+6) a (ae n pos o p q (J r t u)).toList<=96100):=λah=>by
  obtain⟨au,⟨h,ai⟩,aj⟩:=az ah;have aK:aq (λl=>l<E (U i)) i a:=λl a2 _=>k.block l a2;have aL:=isNode.inside _ _ ai;have a3:=isNode.inside _ _ (isNode.frame aK _ _ aL);have a4:=aT aK _ _ aL (h+6);exact⟨au,h,a3.le _ oM,by rw[a4];exact aj _⟩
 have a5:=λb=>cell_of_row a _ b _ 32 (0,0) ag;have a6:y<E (U a):=(gE ag).1;have a7:=λb=>cell_of_row a _ b _ 48 (0,0) af;have a8:x<E (U a):=(gE af).1;have aM:=λb=>cell_of_row a _ b _ 29 (0,0) z;have aN:=λb=>frozen_of_row a d b _ 29 z;have av:d<E (U a):=(gE z).1;have aO:=λb=>cell_of_row a _ b _ 32 (0,0) A;have aP:=λb=>frozen_of_row a c b _ 32 A;have aw:c<E (U a):=(gE A).1;clear aB aC aD aE ao ab ac k v az aX aZ a0
 cases aQ:(j==0)
 ·have ax:j≠0:=sU aQ;have a9:Hid (∀m:Act,m.defers=[]->m.tmps.getD 2 undef=.pointer (aS d)->m.tmps.getD 3 undef=.pointer (aS c)->bodyPost Tryz.prog Tryz.f4 (gD w) .ret m (jT (jS a d (J I 0 0) (J I 0 0) (J I 0 0) (J I 0 0) (J I 0 0) (vN 0) (J I 0 0)) c (vN j) (vN ap)).drew):=λm a' ba bb=>tF Tryz.results4 z A aF ar aH aI ax m a' ba bb;go_wp2_with fail;go_region
  all_goals
   go_wp2_with fail;exact a9.out _ Q Q Q
 ·have ax:j=0:=sU aQ;obtain⟨au,h,ai,aj⟩:=aJ.out ax;subst au;have bc:Hid (Calls Tryz.prog 11 #[.agg (ae 0 pos o p q (J r t u))] a (gD a)):=u7 ai aj;clear ai aj aJ;go_wp2_with (go_at_call 11;refine bc.out.mono ?_;rintro bz e ⟨B,ml,C,D,F,G,H,K,L,M,N,P,R,S,T,V,W,X,Y,ak,al,rfl,ay,bd⟩;have Z:e.heap[d]? =some (Ob (eL (J I 0 0) (J I 0 0) (J I 0 0) (J I 0 0) (J I 0 0) 0 (J I 0 0)) 29 (0,0)):=(ay.block _ av).trans z;have aa:e.heap[c]? =some (Ob #[vN 0,vN 0] 32 (0,0)):=(ay.block _ aw).trans A;clear a5 a6 a7 a8 aM aN av aO aP aw;have aM:=λb=>cell_of_row e _ b _ 29 (0,0) Z;have aN:=λb=>frozen_of_row e d b _ 29 Z;have av:d<E (U e):=(gE Z).1;have aO:=λb=>cell_of_row e _ b _ 32 (0,0) aa;have aP:=λb=>frozen_of_row e c b _ 32 aa;have aw:c<E (U e):=(gE aa).1)
  have bf:=iy Z (J B ml C) (J D F G) (J H K L) (J M N P) (J R S T) (vN V) (J W X Y);have aR:=iz ((dL a1 (J B ml C) (J D F G) (J H K L) (J M N P) (J R S T) (vN V) (J W X Y)).trans aa) (vN ak) (vN al);have bg:Below (E (U w)) w e:=ar.trans (ay.mono ar.size)
  have bh:Hid (gD w (.returned (.tuple #[.agg (eL (J B ml C) (J D F G) (J H K L) (J M N P) (J R S T) V (J W X Y)),.agg #[vN ak,vN al]])) (jT (jS e d (J B ml C) (J D F G) (J H K L) (J M N P) (J R S T) (vN V) (J W X Y)) c (vN ak) (vN al))):=by
   refine⟨B,ml,C,D,F,G,H,K,L,M,N,P,R,S,T,V,W,X,Y,ak,al,Q,gB (gA bg aH _ _ _ _ _ _ _) aI _ _,λah=>?_⟩;obtain⟨bi,bj,bk,bl,bm,bn,bo,bp,bq,rfl,rfl,rfl,br⟩:=bd ah;subst ah;subst bi;refine⟨Q,bj,bk,bl,bm,bn,bo,bp,bq,Q,Q,Q,br.move Z Q (λl bs=>?_) sQ⟩;by_cases aU:l=c
   ·rw[aU];exact aR.trans aa.symm
   ·exact(dN aU _ _).trans (dL bs _ _ _ _ _ _ _)
  go_light;exact bodyPost_ret (gx Tryz.results4 Q Q ((dN aF _ _).trans bf) aR) Q bh.out
section
variable{D H ivc:Nat} {ivo:OA} {W w:World}
theorem PG.au {i:OA} {j:Nat} {k:List Dd} {b:VV} {l:OA} {m:Nat} {n:VV} {o q r:Nat} (p:PG w D H i j k ivo ivc b l m n o q r) (c:Below (E (U w)) w W):nf W D H ivo ivc b:=by
 have d:aq (λa=>a<E (U w)) w W:=λa s _=>c.block a s;have e:=c.size;have f:∀a,a<E (U w)->a<E (U W)->a<E (U W):=λa _ h=>h;refine⟨(p.im.frame d e).weaken f,p.bj.2.1,p.cap,λx t=>?_⟩;obtain⟨y,u⟩:=List.getElem?_of_mem t;obtain⟨v,h⟩:=p.lN.at u;exact⟨v,(h.frame d e).weaken f⟩
theorem nf.move {b:VV} (h:nf w D H ivo ivc b) (c:Below (E (U w)) w W):nf W D H ivo ivc b:=by
 have d:aq (λa=>a<E (U w)) w W:=λa i _=>c.block a i;have e:=c.size;have f:∀a,a<E (U w)->a<E (U W)->a<E (U W):=λa _ h=>h;refine⟨(h.im.frame d e).weaken f,h.bj,h.cap,λj k=>?_⟩;obtain⟨l,m⟩:=h.is j k;exact⟨l,(m.frame d e).weaken f⟩
theorem lW {b:VV} (h:nf w D H ivo ivc b) (a:Below (E (U w)) w W) {x c:List Value} (d:x∈b) (e:c∈b):gj W H x c↔gj w H x c:=by
 obtain⟨j,k,l,m,n,o,p,q,r,s,t,u,v,y,z,A,B,C,rfl,f,-⟩:=h.below d a;obtain⟨F,G,K,L,M,N,P,R,S,T,V,X,Y,Z,aa,ab,ac,ad,rfl,i,-⟩:=h.below e a;rw[mN,mN,dK (aq.below a) (aq.below a) a.size H H H f i]
theorem jK {a:VV} (h:nf w D H ivo ivc a) (d:Below (E (U w)) w W) {n:Nat} (e:fD W H a n):fD w H a n:=λf i j b k l m c o=>e f i j b k l m c ((lW h d (mG b) (mG c)).2 o)
def uq (w:World) (H:Nat) (au:VV) (W:World) (e:Ending) (w':World):Prop:=∃k a,e=.returned (.agg #[vN k,vN a])/\pG w H au k a/\Below (E (U W)) W w'
theorem iF.at {a:VV} (h:nf w D H ivo ivc a) (b:Below (E (U w)) w W):∀c d,iF W H a c d->uq w H a W c d:=by
 rintro c d ⟨j,k,rfl,l,m⟩;refine⟨j,k,Q,?_,m⟩;rcases l with⟨n,o,f,rfl,p,⟨q,r,s,i,t⟩,e⟩|⟨rfl,rfl,e⟩
 ·exact .inl ⟨n,o,f,Q,p,⟨q,r,s,i,(lW h b (mG f) (mG i)).1 t⟩,jK h b e⟩
 ·exact .inr ⟨Q,Q,jK h b e⟩
theorem su {b:VV} {k a k' c:Int} (h:pG w H b k a) (f:pG w H b k' c):Calls Tryz.prog 5 #[.agg #[vN k,vN a],.agg #[vN k',vN c]] W (λd e=>d=.returned (.bool true)/\Below (E (U W)) W e):=by
 refine oR.mono ?_;rintro d e ⟨i,rfl,j,l⟩;obtain rfl:i=true:=j.2 (h.eq f);exact⟨Q,l⟩
theorem yY (s:ByteArray) (w:World) (bJ:s.size<=maxLen):Calls Tryz.prog 3 #[.string s] w (λa1 bK=>a1=.returned (.bool true)/\Below (E (U w)) w bK):=by
 go_enter Tryz.func3,Tryz.ntmps3
 go_upto_region 2 with(go_at_call 4;refine(xH s w bJ).mono ?_;rintro ca aC ⟨R,ml,S,T,bn,V,X,Y,Z,L,bo,M,aa,bp,ab,ac,ad,ae,ag,aT,bq,rfl,a2,br⟩)
 obtain⟨i,K,aU⟩:=dW aC (Ob (eL (J R ml S) (J T bn V) (J X Y Z) (J L bo M) (J aa bp ab) ac (J ad ae ag)) 29) (Ob #[vN aT,vN bq] 32);generalize hq:World.alloc (World.alloc aC _) _=a;have bs:(aC.alloc (Ob (eL (J R ml S) (J T bn V) (J X Y Z) (J L bo M) (J aa bp ab) ac (J ad ae ag)) 29)).alloc (Ob #[vN aT,vN bq] 32)=a:=hq;rw[bs] at i K aU;clear hq bs;obtain⟨ah,bt⟩:∃ah,ah=E (U aC):=⟨_,Q⟩;obtain⟨a3,bu⟩:∃a3,a3=E (U aC)+1:=⟨_,Q⟩;rw[<-bu] at aU⊢;rw[<-bt] at K⊢;have a4:Below (E (U w)) w a:=a2.trans (i.mono a2.size);have cb:=λl=>cell_of_row a _ l _ 32 (0,0) aU;have cc:a3<E (U a):=(gE aU).1;clear bt bu
 cases bL:(aT==0)
 ·go_wp2_with fail;go_ret;exact⟨Q,a4⟩
 ·have bM:aT=0:=sU bL;obtain⟨cd,D,H,aV,b,aW,ce,cf,cg,rfl,rfl,rfl,a5⟩:=br bM;have ai:Hid (nf a D H L M b):=a5.au i;have ch:=a5.bj.2.1;clear a5 br i a2;have aX:Hid (∀{W:World},Below (E (U a)) a W->Below (E (U a)) a W/\(Ce W ah (eL (J R ml S) (J T (O aV) V) (J X Y Z) (J L (O b) M) (J aa (O aW) ab) ac (J ad ae ag)))):=λ{W} c=>⟨c,λl=>cell_of_row W _ l _ 29 (0,0) ((c.block _ (gE K).1).trans K)⟩;have bv:Hid (∀{W:World},Below (E (U a)) a W->Calls Tryz.prog 6 #[.agg (eL (J R ml S) (J T (O aV) V) (J X Y Z) (J L (O b) M) (J aa (O aW) ab) ac (J ad ae ag))] W (uq a H b W)/\Calls Tryz.prog 7 #[.agg (eL (J R ml S) (J T (O aV) V) (J X Y Z) (J L (O b) M) (J aa (O aW) ab) ac (J ad ae ag))] W (uq a H b W)):=λ{W} c=>⟨(rH (ai.out.move c)).mono (iF.at ai.out c),(rG (ai.out.move c)).mono (iF.at ai.out c)⟩;go_upto_region 4 with fail
  go_cut [22] (λbN a6=>bN=.bool false/\Below (E (U a)) a a6)
  case first=>
   go_region_held3 (λW=>Below (E (U a)) a W/\(Ce W ah (eL (J R ml S) (J T (O aV) V) (J X Y Z) (J L (O b) M) (J aa (O aW) ab) ac (J ad ae ag))))
    (first|assumption|exact aX.out ((Below.refl _ _).drew)|exact aX.out aY|exact aX.out a7|exact aX.out bO)
    (first
     |(go_at_call 6;have e:=(‹Below (E (U a)) a _/\_›).1;refine(bv.out e).1.mono ?_;rintro ci cj ⟨ck,cl,rfl,bP,bQ⟩;have bO:=e.trans (bQ.mono e.size))
     |(go_at_call 7;have e:=(‹Below (E (U a)) a _/\_›).1;refine(bv.out e).2.mono ?_;rintro cm cn ⟨co,cp,rfl,bS,bT⟩;have a7:=e.trans (bT.mono e.size))
     |(go_at_call 5;refine(su bP bS).mono ?_;rintro bU bV ⟨rfl,a8⟩;have aY:=a7.trans (a8.mono a7.size)))
   all_goals
    go_wp2_with fail;go_meet;exact⟨Q,aY⟩
  case rest=>
   obtain⟨rfl,a9⟩:=hcut;have N:=(a9.block _ (gE K).1).trans K;have a':=λl=>cell_of_row wc _ l _ 29 (0,0) N;have ba:ah<E (U wc):=(gE N).1;go_wp2_with fail;clear a' ba N;go_loopg [6,8,26] (O b) (λbb _ _ aD wr=>∃j:Nat,bb=O b - j/\aD=vN j/\j<=O b/\Below (E (U a)) a wr)
   case atStart=>exact⟨0,Q,Q,zL _,a9⟩
   case round=>
    clear a9;obtain⟨j,aE,rfl,cq,c⟩:=hrel;have bW:Hid (gk=O b - j):=aE;clear aE;by_cases bw:j<O b
    ·have bX:(j:Int)<(O b:Int):=oM;obtain⟨bx,bz⟩:∃bx,b[j]? =some bx:=⟨_,gG bw⟩;obtain⟨g,aj,al,ao,ap,ar,au,av,m,n,o,p,q,r,t,u,aw,ax,ay,rfl,bc,rfl,aF,aG⟩:=ai.out.at bz c;have bd:Hid (af (λaH=>aH<E (U a)) (Gd D) H a (ak m n (J o p q) (J r t u)).toList):=aG;clear aG bz;go_upto_region 8 with fail
     refine wp_region_lit ?_;refine wpList_plain Q λP hK=>?_;go_simp;refine hK _ _ ?_;clear hK P;try simp only[Act.put,List.setIfInBounds_toArray,List.set_cons_zero,List.set_cons_succ]
     refine wpList_load_mid Q 43 (.tmp 28) Q g (j*10) Q (bR aj al ao ap (J ar au av) m n (J o p q) (J r t u) (J aw ax ay)).toList _ aF Tryz.underlying43 Q fh ?_;try simp only[Act.put,List.setIfInBounds_toArray,List.set_cons_zero,List.set_cons_succ]
     refine wpList_plain Q λP hK=>?_;go_simp;refine hK _ _ ?_;clear hK P;try simp only[Act.put,List.setIfInBounds_toArray,List.set_cons_zero,List.set_cons_succ]
     refine wpList_store_mid Q 43 (.tmp 6) (.tmp 29) Q (E (U wr)) 0 (bR aj al ao ap (J ar au av) m n (J o p q) (J r t u) (J aw ax ay)) Q Q (fx (al1 wr _).2 (show _<=_ from lR 10)) fh (Array.all_eq_true_iff_forall_mem.2 (by intro aD f;simp at f;repeat(first|(subst f;rfl)|(rcases f with f|f;(subst f;rfl))))) ?_;try simp only[Act.put,List.setIfInBounds_toArray,List.set_cons_zero,List.set_cons_succ]
     generalize hwq:World.setCells _ (E (U wr)) 0 _=v;have bf:Below (E (U wr)) wr v/\v.heap[E (U wr)]? =some (Ob (bR aj al ao ap (J ar au av) m n (J o p q) (J r t u) (J aw ax ay)) 43 (0,0)):=by rw[<-hwq];exact copied Q
     clear hwq;obtain⟨aI,i⟩:=bf;have bg:=c.trans (aI.mono c.size);have CB:Hid (∀{W:World},Below (E (U v)) v W->W.heap[E (U wr)]? =some (Ob (bR aj al ao ap (J ar au av) m n (J o p q) (J r t u) (J aw ax ay)) 43 (0,0))/\Below (E (U a)) a W):=λ{W} h=>⟨(h.block _ (gE i).1).trans i,bg.trans (h.mono bg.size)⟩;clear aI i c aF bc;obtain⟨aZ,bA⟩:∃aZ,aZ=E (U wr):=⟨_,Q⟩;rw[<-bA] at CB⊢;clear bA;have N:=(bg.block _ (gE K).1).trans K;have a':=λl=>cell_of_row v _ l _ 29 (0,0) N;have ba:ah<E (U v):=(gE N).1;go_wp2_with fail;clear a' ba N;go_loopg [8,33] (O b) (λbb _ aD bY=>∃k:Nat,bb=O b - k/\aD=vN k/\k<=O b/\Below (E (U v)) v bY)
     case atStart=>exact⟨0,Q,Q,zL _,Below.refl _ _⟩
     case round=>
      obtain⟨k,aE,rfl,cr,c⟩:=hrel;have bZ:Hid (gk=O b - k):=aE;clear aE;by_cases bB:k<O b
      ·have b0:(k:Int)<(O b:Int):=oM;obtain⟨bC,bD⟩:∃bC,b[k]? =some bC:=⟨_,gG bB⟩;obtain⟨b1,aJ,aK,aL,aM,aN,aO,aP,x,y,z,A,B,C,F,G,aQ,aR,aS,bE,bc,rfl,aF,aG⟩:=ai.out.at bD (CB.out c).2;obtain rfl:g=b1:=sU bE;have bh:Hid (af (λaH=>aH<E (U a)) (Gd D) H a (ak x y (J z A B) (J C F G)).toList):=aG;clear aG bD bE;go_upto_region 11 with fail
       refine wp_region_lit ?_;refine wpList_plain Q λP hK=>?_;go_simp;refine hK _ _ ?_;clear hK P;try simp only[Act.put,List.setIfInBounds_toArray,List.set_cons_zero,List.set_cons_succ]
       refine wpList_load_mid Q 43 (.tmp 35) Q g (k*10) Q (bR aJ aK aL aM (J aN aO aP) x y (J z A B) (J C F G) (J aQ aR aS)).toList _ aF Tryz.underlying43 Q fh ?_;try simp only[Act.put,List.setIfInBounds_toArray,List.set_cons_zero,List.set_cons_succ]
       refine wpList_plain Q λP hK=>?_;go_simp;refine hK _ _ ?_;clear hK P;try simp only[Act.put,List.setIfInBounds_toArray,List.set_cons_zero,List.set_cons_succ]
       refine wpList_store_mid Q 43 (.tmp 8) (.tmp 36) Q (E (U wr)) 0 (bR aJ aK aL aM (J aN aO aP) x y (J z A B) (J C F G) (J aQ aR aS)) Q Q (fx (al1 wr _).2 (show _<=_ from lR 10)) fh (Array.all_eq_true_iff_forall_mem.2 (by intro aD f;simp at f;repeat(first|(subst f;rfl)|(rcases f with f|f;(subst f;rfl))))) ?_;try simp only[Act.put,List.setIfInBounds_toArray,List.set_cons_zero,List.set_cons_succ]
       generalize hwq:World.setCells _ (E (U wr)) 0 _=d;have bf:Below (E (U wr)) wr d/\d.heap[E (U wr)]? =some (Ob (bR aJ aK aL aM (J aN aO aP) x y (J z A B) (J C F G) (J aQ aR aS)) 43 (0,0)):=by rw[<-hwq];exact copied Q
       clear hwq;obtain⟨aI,i⟩:=bf;have az:=c.trans (aI.mono c.size);have a0:Hid (∀{W:World},Below (E (U d)) d W->Below (E (U d)) d W/\(Ce W aZ (bR aj al ao ap (J ar au av) m n (J o p q) (J r t u) (J aw ax ay)))/\(Ce W (E (U wr)) (bR aJ aK aL aM (J aN aO aP) x y (J z A B) (J C F G) (J aQ aR aS)))):=λ{W} h=>⟨h,λl=>cell_of_row W _ l _ 43 (0,0) (CB.out (az.trans (h.mono az.size))).1,λl=>cell_of_row W _ l _ 43 (0,0) ((h.block _ (gE i).1).trans i)⟩;clear aI i c aF bc;obtain⟨bi,bF⟩:∃bi,bi=E (U wr):=⟨_,Q⟩;rw[<-bF] at a0⊢;clear bF
       have bG:Hid (∀{W:World},Below (E (U d)) d W->Calls Tryz.prog 8 #[.agg (ak m n (J o p q) (J r t u)),.agg (ak x y (J z A B) (J C F G))] W (dP W (fS H a (ak m n (J o p q) (J r t u)).toList (ak x y (J z A B) (J C F G)).toList))/\Calls Tryz.prog 9 #[.agg (ak m n (J o p q) (J r t u)),.agg (ak x y (J z A B) (J C F G))] W (dP W (fS H a (ak m n (J o p q) (J r t u)).toList (ak x y (J z A B) (J C F G)).toList))):=λ{W} h=>by
        have aA:Below (E (U a)) a W:=(CB.out (az.trans (h.mono az.size))).2;have aB:aq (λaH=>aH<E (U a)) a W:=aq.below aA;have bH:=dK aB aB aA.size H H H bd.out bh.out;constructor
        ·refine(nF (af.frame aB aA.size _ _ bd.out) (af.frame aB aA.size _ _ bh.out)).mono ?_;rintro a1 b2 ⟨bj,rfl,bk,bl⟩;exact⟨bj,Q,bk.trans bH,bl⟩
        ·refine(kL H H (af.frame aB aA.size _ _ bd.out) (af.frame aB aA.size _ _ bh.out)).mono ?_;rintro a1 b2 ⟨bj,rfl,bk,bl⟩;exact⟨bj,Q,bk.trans bH,bl⟩
       go_upto_region 12 with fail
       go_cut [47] (λb3 a6=>b3=.bool false/\Below (E (U d)) d a6)
       case first=>
        go_region_held3 (λW=>Below (E (U d)) d W/\(Ce W aZ (bR aj al ao ap (J ar au av) m n (J o p q) (J r t u) (J aw ax ay)))/\(Ce W bi (bR aJ aK aL aM (J aN aO aP) x y (J z A B) (J C F G) (J aQ aR aS))))
         (first|assumption|exact a0.out ((Below.refl _ _).drew)|exact a0.out bI|exact a0.out aY)
         (first
          |(go_at_call 8;have e:=(‹Below (E (U d)) d _/\_›).1;refine(bG.out e).1.mono ?_;rintro bU bV ⟨b4,rfl,b5,a8⟩;have aY:=e.trans (a8.mono e.size))
          |(go_at_call 9;have e:=(‹Below (E (U d)) d _/\_›).1;refine(bG.out e).2.mono ?_;rintro cs ct ⟨b6,rfl,b7,b8⟩;have bI:=e.trans (b8.mono e.size);obtain rfl:b4=b6:=Bool.eq_iff_iff.2 (b5.trans b7.symm)))
        all_goals
         go_wp2_with fail;go_meet;exact⟨sQ,bI⟩
       case rest=>
        obtain⟨rfl,b9⟩:=hcut;have bm:Hid (Below (E (U v)) v wc):=az.trans (b9.mono az.size);go_wp2_with fail;go_roundg (O b - (k+1))
        case measure=>rw[bZ.out];omega
        case rel=>exact⟨k+1,Q,by go_num,bB,bm.out⟩
      ·have b0:¬(k:Int)<(O b:Int):=oM;have bm:Hid (Below (E (U a)) a wr):=(CB.out c).2;go_wp2_with fail;go_roundg (O b - (j+1))
       case measure=>rw[bW.out];omega
       case rel=>exact⟨j+1,Q,by go_num,bw,bm.out⟩
    ·have bX:¬(j:Int)<(O b:Int):=oM;have b':Hid (Below (E (U w)) w wr):=a4.trans (c.mono a4.size);go_wp2_with fail;go_ret;exact⟨Q,b'.out⟩
end
section
open Go.ChangeShapes Go.WideShapes Go.ChangeAt Go.RowKit Go.ChangeMaps
theorem yT:ownKnob Tryz.prog.godebug=I:=by kernel_rfl
theorem rE (H:Type) (enc:TypeId × Value->H) (W:World) (base:Nat) (a:Array Value) (b o:List (DataW H)) (q:List MemPlace)
 (c:∀(j:Nat) t v,Tryz.f3.params[j]? =some t->a[j]? =some v->Value.okWide Tryz.prog W .any base t v)
 (d:DataW.Whole enc Tryz.prog Tryz.f3.params.toList Rows.traitOverlapsSpec.vars false W a.toList b o q):
  Calls Tryz.prog 3 a W λe f=>∃v,e=.returned v/\Rows.traitOverlapsSpec.post enc Tryz.prog Tryz.f3 false true false false W a v f:=by
  have i:=d;obtain⟨p,A,k,r,rfl,B,C⟩:=d;have l:DataW.TrodAll enc Tryz.prog W 0 (λ_=>true) true Tryz.f3.params.toList a.toList b p:=k;rw[Tryz.params3] at l c;obtain⟨m,D,F,G,K,L,M,rfl,rfl,s,u⟩:=trodAll_cons l;obtain⟨rfl,rfl,rfl⟩:=trodAll_nil u;obtain rfl:a=#[m]:=by cases a;simp_all
  obtain⟨rfl,rfl⟩:=trodVars_none r;obtain⟨x,rfl,rfl,rfl,n⟩:=open_string Tryz.underlying9 (c 0 9 m Q Q) s;clear k;simp only[List.append_nil] at i;refine(yY x W n).mono λe f ⟨y,z⟩=>?_;subst y;refine⟨_,Q,_,_,_,[],[],[],i,trodAll_cons_mk (shut_bool Tryz.underlying4 _) trodAll_mk0,?_,Q,z.frame _,λh=>by cases h⟩;exact trodAll_cons_mk (p:=[]) (p':=[]) (shut_string Tryz.underlying9 n) trodAll_mk0
theorem u3 (a:Os) (b:a.Started) (H:Type) (enc:TypeId × Value->H):
 ReturnsInHanded {} Tryz.checked a 3 .any (Rows.traitOverlapsSpec.pre6 enc Tryz.prog Tryz.f3 Rows.traitOverlapsRow.domain false) (Rows.traitOverlapsSpec.post enc Tryz.prog Tryz.f3 false true false false):=by
 refine returnsInHanded_of_change (C:=Tryz.checked) yT b kQ Tryz.func3
  (ChangeSpec.witness6 (enc:=enc) (C:=Tryz.checked) false ⟨#[],#[.string .empty],[]⟩ 8 kQ kQ kQ kQ) ?_
 intro c d e f i j k l _ _;exact rE H enc c d e f i j k l
theorem trait_overlaps:Rows.TraitOverlapsSaid:=
 OpenClaim.holds_of_wide 3 Tryz.f3 Q Q Q Q Q Q Q ⟨Q,Q,Q,Q,Q⟩ Q Q Q Q Q kQ Tryz.func3 kQ
  (of_decide_eq_true kQ) (by unfold Func.isWrapper;first|(rw[if_pos (by decide+kernel)];kernel_rfl)|(rw[if_neg (by decide+kernel)];exact⟨Q,Q⟩))
  (λa b c enc _=>u3 a b c enc)
end
end Go.Proofs.YtdghkacbpebcoaaGreat
