import Derived.Test.YtdghkacbpebcoaaGreatS49
namespace Go.Proofs.YtdghkacbpebcoaaGreat
open Go.RowKit
open Value renaming slice→J
open List renaming length→O
open Option renaming none→I
open World renaming heap→U
open _root_.Array renaming size→E
open Obj renaming cells→Ob
set_option linter.all false
set_option maxRecDepth 100000
set_option maxHeartbeats 0
theorem rH {w:World} {D H:Nat} {ivo:OA} {ivc:Nat} {a:VV} {aa ab ac ad ae:Value} {ag:Int} (aI:nf w D H ivo ivc a):
 Calls Tryz.prog 6 #[.agg (eL aa ab ac (J ivo (O a) ivc) ad ag ae)] w (iF w H a):=by
 have a2:Hid (nf w D H ivo ivc a):=aI;have bM:=aI.bj;have bN:O a<=ivc:=aI.cap;clear aI;obtain⟨a3,a4,a5⟩:=dW w (Ob (eL aa ab ac (J ivo (O a) ivc) ad ag ae) 29) (Ob #[vN 0,vN 0] 32)
 have a6:Hid (∀d,Below (E (U w)+2) ((w.alloc (Ob (eL aa ab ac (J ivo (O a) ivc) ad ag ae) 29)).alloc (Ob #[vN 0,vN 0] 32)) d->d.heap[E (U w)]? =some (Ob (eL aa ab ac (J ivo (O a) ivc) ad ag ae) 29 (0,0))/\d.heap[E (U w)+1]? =some (Ob #[vN 0,vN 0] 32 (0,0))/\E (U w)+2<=E (U d)/\Below (E (U w)) w d):=by
  intro d e;have ah:E (U w)+2<=E (U d):=by have:=e.size;simpa using this
  exact⟨(e.block _ sQ).trans a4,(e.block _ sQ).trans a5,ah,a3.trans (e.mono (Nat.le_add_right _ 2))⟩
 clear a3 a4 a5;go_enter Tryz.func6,Tryz.ntmps6
 go_wp2_with fail;go_loopg [3,4,6,10] (O a) (λaO _ _ _ aD wr=>∃b:Nat,aO=O a - b/\aD=vN b/\b<=O a/\fD w H a b/\Below (E (U w)+2) ((w.alloc (Ob (eL aa ab ac (J ivo (O a) ivc) ad ag ae) 29)).alloc (Ob #[vN 0,vN 0] 32)) wr)
 case atStart=>exact⟨0,Q,Q,zL _,λbO aP bu=>absurd bu (Nat.not_lt_zero _),Below.refl _ _⟩
 case round=>
  obtain⟨b,aE,rfl,bP,a7,M⟩:=hrel;have bv:Hid (gk=O a - b):=aE;have aQ:Hid (fD w H a b):=a7;clear aE a7;obtain⟨N,ai,ah,aR⟩:=a6.out wr M;by_cases a8:b<O a
  ·have bw:(b:Int)<(O a:Int):=oM;obtain⟨aP,aT⟩:∃aP,a[b]? =some aP:=⟨_,gG a8⟩;obtain⟨g,i,P,x,R,S,T,V,j,k,l,m,n,o,p,q,W,X,Y,rfl,aU,rfl,aF,aG⟩:=a2.out.at aT aR;have a9:Hid (af (λaH=>aH<E (U w)) (Gd D) H w (ak j k (J l m n) (J o p q)).toList):=aG;have a':Hid (a[b]? =some (bR i P x R (J S T V) j k (J l m n) (J o p q) (J W X Y)).toList):=aT;clear aG aT N ai;go_upto_region 3 with fail
   refine wp_region_lit ?_;refine wpList_plain Q λv hK=>?_;go_simp;refine hK _ _ ?_;clear hK v;try simp only[Act.put,List.setIfInBounds_toArray,List.set_cons_zero,List.set_cons_succ]
   refine wpList_plain Q λv hK=>?_;go_simp;refine hK _ _ ?_;clear hK v;try simp only[Act.put,List.setIfInBounds_toArray,List.set_cons_zero,List.set_cons_succ]
   refine wpList_load_mid Q 43 (.tmp 13) Q g (b*10) Q (bR i P x R (J S T V) j k (J l m n) (J o p q) (J W X Y)).toList _ aF Tryz.underlying43 Q fh ?_;try simp only[Act.put,List.setIfInBounds_toArray,List.set_cons_zero,List.set_cons_succ]
   refine wpList_plain Q λv hK=>?_;go_simp;refine hK _ _ ?_;clear hK v;try simp only[Act.put,List.setIfInBounds_toArray,List.set_cons_zero,List.set_cons_succ]
   refine wpList_plain Q λv hK=>?_;go_simp;refine hK _ _ ?_;clear hK v;try simp only[Act.put,List.setIfInBounds_toArray,List.set_cons_zero,List.set_cons_succ]
   refine wpList_store_mid Q 43 (.tmp 4) (.tmp 14) Q (E (U wr)) 0 (bR i P x R (J S T V) j k (J l m n) (J o p q) (J W X Y)) Q Q (fx (al1 wr _).2 (show _<=_ from lR 10)) fh (Array.all_eq_true_iff_forall_mem.2 (by intro aD r;simp at r;repeat(first|(subst r;rfl)|(rcases r with r|r;(subst r;rfl))))) ?_;try simp only[Act.put,List.setIfInBounds_toArray,List.set_cons_zero,List.set_cons_succ]
   generalize hwq:World.setCells _ (E (U wr)) 0 _=y;have aV:Below (E (U wr)) wr y/\y.heap[E (U wr)]? =some (Ob (bR i P x R (J S T V) j k (J l m n) (J o p q) (J W X Y)) 43 (0,0)):=by rw[<-hwq];exact copied Q
   clear hwq;obtain⟨al,aj⟩:=aV
   have ao:Hid (∀d,Below (E (U y)) y d->d.heap[E (U w)]? =some (Ob (eL aa ab ac (J (aS g) (O a) ivc) ad ag ae) 29 (0,0))/\d.heap[E (U w)+1]? =some (Ob #[vN 0,vN 0] 32 (0,0))/\d.heap[E (U wr)]? =some (Ob (bR i P x R (J S T V) j k (J l m n) (J o p q) (J W X Y)) 43 (0,0))/\E (U w)+2<=E (U wr)/\E (U wr)<E (U d)/\Below (E (U w)+2) ((w.alloc (Ob (eL aa ab ac (J (aS g) (O a) ivc) ad ag ae) 29)).alloc (Ob #[vN 0,vN 0] 32)) d/\Below (E (U w)) w d):=by
    intro d e;have ba:E (U wr)<E (U y):=(gE aj).1;have bb:=M.trans ((al.trans (e.mono al.size)).mono ah);obtain⟨bx,bz,bQ,bA⟩:=a6.out d bb;exact⟨bx,bz,(e.block _ ba).trans aj,ah,Nat.lt_of_lt_of_le ba e.size,bb,bA⟩
   clear al aj M aR aF ah aU;obtain⟨bc,bd⟩:∃bc,bc=E (U wr):=⟨_,Q⟩;rw[<-bd] at ao⊢;clear bd;obtain⟨N,ai,aW,ah,bf,-,-⟩:=ao.out y (Below.refl _ _);have bg:=λf=>cell_of_row y _ f _ 29 (0,0) N;have bh:E (U w)<E (U y):=(gE N).1;have bS:(b:Int)<=(ivc:Int):=oM;have bT:(0:Int)<=(b:Int):=oM;clear N ai aW bf ah;go_wp2_with fail;clear bg bh;go_loopg [6,20] b (λaO _ aD bB=>∃c:Nat,aO=b - c/\aD=vN c/\c<=b/\Hid (∀(t:Nat) s,t<c->a[t]? =some s->¬gj w H (bR i P x R (J S T V) j k (J l m n) (J o p q) (J W X Y)).toList s)/\Below (E (U y)) y bB)
   case atStart=>exact⟨0,Q,Q,zL _,λt s aX=>absurd aX (Nat.not_lt_zero _),Below.refl _ _⟩
   case round=>
    obtain⟨c,aE,rfl,bU,bi,M⟩:=hrel;have bj:Hid (gk=b - c):=aE;clear aE;by_cases aY:c<b
    ·have bC:(c:Int)<(b:Int):=oM;obtain⟨s,e⟩:∃s,a[c]? =some s:=⟨_,gG oM⟩;obtain⟨bD,u,ap,ar,au,av,aw,ax,z,A,B,C,F,G,K,L,ay,az,aA,bk,aU,rfl,aF,aG⟩:=a2.out.at e (ao.out _ M).2.2.2.2.2.2;obtain rfl:g=bD:=sU bk;have bl:Hid (af (λaH=>aH<E (U w)) (Gd D) H w (ak z A (J B C F) (J G K L)).toList):=aG;have bm:Hid (a[c]? =some (bR u ap ar au (J av aw ax) z A (J B C F) (J G K L) (J ay az aA)).toList):=e;clear aG e bk;go_upto_region 6 with fail
     refine wp_region_lit ?_;refine wpList_plain Q λv hK=>?_;go_simp;refine hK _ _ ?_;clear hK v;try simp only[Act.put,List.setIfInBounds_toArray,List.set_cons_zero,List.set_cons_succ]
     refine wpList_load_mid Q 43 (.tmp 22) Q g (c*10) Q (bR u ap ar au (J av aw ax) z A (J B C F) (J G K L) (J ay az aA)).toList _ aF Tryz.underlying43 Q fh ?_;try simp only[Act.put,List.setIfInBounds_toArray,List.set_cons_zero,List.set_cons_succ]
     refine wpList_plain Q λv hK=>?_;go_simp;refine hK _ _ ?_;clear hK v;try simp only[Act.put,List.setIfInBounds_toArray,List.set_cons_zero,List.set_cons_succ]
     refine wpList_store_mid Q 43 (.tmp 6) (.tmp 23) Q (E (U wr)) 0 (bR u ap ar au (J av aw ax) z A (J B C F) (J G K L) (J ay az aA)) Q Q (fx (al1 wr _).2 (show _<=_ from lR 10)) fh (Array.all_eq_true_iff_forall_mem.2 (by intro aD r;simp at r;repeat(first|(subst r;rfl)|(rcases r with r|r;(subst r;rfl))))) ?_;try simp only[Act.put,List.setIfInBounds_toArray,List.set_cons_zero,List.set_cons_succ]
     generalize hwq:World.setCells _ (E (U wr)) 0 _=Z;have aV:Below (E (U wr)) wr Z/\Z.heap[E (U wr)]? =some (Ob (bR u ap ar au (J av aw ax) z A (J B C F) (J G K L) (J ay az aA)) 43 (0,0)):=by rw[<-hwq];exact copied Q
     clear hwq;obtain⟨al,aj⟩:=aV;have aJ:=M.trans (al.mono M.size);have bE:E (U wr)<E (U Z):=(gE aj).1;obtain⟨N,ai,aW,ah,bf,-,aK⟩:=ao.out Z aJ;clear al M aF aU N;obtain⟨bn,bo⟩:∃bn,bn=E (U wr):=⟨_,Q⟩;rw[<-bo] at aj bE⊢;clear bo;have bV:=λf=>cell_of_row Z _ f _ 43 (0,0) aW;have bW:=λf=>cell_of_row Z _ f _ 43 (0,0) aj
     have bp:Hid (¬gj w H (bR i P x R (J S T V) j k (J l m n) (J o p q) (J W X Y)).toList (bR u ap ar au (J av aw ax) z A (J B C F) (J G K L) (J ay az aA)).toList->∀(t:Nat) s,t<c+1->a[t]? =some s->¬gj w H (bR i P x R (J S T V) j k (J l m n) (J o p q) (J W X Y)).toList s):=by
      intro bF t s aX e;rcases Nat.lt_or_ge t c with bq|bq
      ·exact bi.out t s bq e
      ·obtain rfl:t=c:=oM;obtain rfl:=Option.some.inj (bm.out.symm.trans e);exact bF
     have aZ:Hid (gj w H (bR i P x R (J S T V) j k (J l m n) (J o p q) (J W X Y)).toList (bR u ap ar au (J av aw ax) z A (J B C F) (J G K L) (J ay az aA)).toList↔i=u/\fS H w (ak j k (J l m n) (J o p q)).toList (ak z A (J B C F) (J G K L)).toList):=mN
     have bG:Hid (Calls Tryz.prog 8 #[.agg (ak j k (J l m n) (J o p q)),.agg (ak z A (J B C F) (J G K L))] Z (dP Z (fS H w (ak j k (J l m n) (J o p q)).toList (ak z A (J B C F) (J G K L)).toList))):=by
      have aL:aq (λaH=>aH<E (U w)) w Z:=aq.below aK;refine(nF (af.frame aL aK.size _ _ a9.out) (af.frame aL aK.size _ _ bl.out)).mono ?_;rintro bH aB ⟨br,rfl,aM,a0⟩;exact⟨br,Q,aM.trans (dK aL aL aK.size H H H a9.out bl.out),a0⟩
     by_cases aC:i=u
     ·have bI:(i==u)=true:=sU aC;have a1:Hid (i=u):=aC;clear aC;go_wp2_with (go_at_call 8;refine bG.out.mono ?_;rintro bH aB ⟨br,rfl,aM,a0⟩;have bs:=aJ.trans (a0.mono aJ.size);obtain⟨-,aN,bJ,bX,bY,-,bK⟩:=ao.out aB bs;have bZ:=λf=>cell_of_row aB _ f _ 43 (0,0) bJ;have b0:=λf=>cell_of_row aB _ f _ 32 (0,0) aN;have b1:=λf=>frozen_of_row aB _ f _ 32 aN;have b2:E (U w)+1<E (U aB):=(gE aN).1)
      ·refine bodyPost_ret (kg Tryz.results6 Q aN _ _) Q ⟨14,x,Q,.inl ⟨b,_,a'.out,Q,Q,⟨c,_,aY,bm.out,aZ.out.2 ⟨a1.out,aM.1 (by assumption)⟩⟩,aQ.out⟩,iD bK oM _ _⟩
      ·go_roundg (b - (c+1))
       case measure=>rw[bj.out];omega
       case rel=>exact⟨c+1,Q,by go_num,aY,bp.out (λh=>by have:=aM.2 (aZ.out.1 h).2;simp_all),bs⟩
     ·have bI:(i==u)=false:=sU aC;have a1:Hid (¬i=u):=aC;clear aC;go_wp2_with fail;go_roundg (b - (c+1))
      case measure=>rw[bj.out];omega
      case rel=>exact⟨c+1,Q,by go_num,aY,bp.out (λh=>a1.out (aZ.out.1 h).1),aJ⟩
    ·have bC:¬(c:Int)<(b:Int):=oM;have bt:Hid (fD w H a (b+1)/\Below (E (U w)+2) ((w.alloc (Ob (eL aa ab ac (J (aS g) (O a) ivc) ad ag ae) 29)).alloc (Ob #[vN 0,vN 0] 32)) wr):=⟨fD.succ aQ.out a'.out (λt s aX e=>bi.out t s oM e),(ao.out _ M).2.2.2.2.2.1⟩;go_wp2_with fail;go_roundg (O a - (b+1))
     case measure=>rw[bv.out];omega
     case rel=>exact⟨b+1,Q,by go_num,a8,bt.out.1,bt.out.2⟩
  ·have bw:¬(b:Int)<(O a:Int):=oM;have bL:Hid (b=O a):=(show b=O a from by omega);have bg:=λf=>cell_of_row wr _ f _ 29 (0,0) N;have bh:E (U w)<E (U wr):=(gE N).1;have b3:=λf=>cell_of_row wr _ f _ 32 (0,0) ai;have b4:=λf=>frozen_of_row wr _ f _ 32 ai;have b5:E (U w)+1<E (U wr):=(gE ai).1;go_wp2_with fail;refine bodyPost_ret (kg Tryz.results6 Q ai _ _) Q ⟨0,0,Q,.inr ⟨Q,Q,bL.out▸aQ.out⟩,iD aR oM _ _⟩
section
variable{a k:Int} {x:List Value} {B D H X b b' pb:Nat} {S:Nat->Prop} {t:TypeId} {us:VV} {x0 x1:Value} {w:World}
theorem ro.cT {size:Nat} {v:Value} {n:Nat} {xs:List Value} (h:ro w S size v n xs) (e:0<size) (m:∀u,xs[0]? =some u->w.cell? ⟨pb,0,I⟩≠some u):ro w (λb=>S b/\b≠pb) size v n xs:=by
 obtain⟨a,o,c,f,p⟩:=h;refine⟨a,o,c,f,λd=>?_⟩;obtain⟨g,q,r,s,i⟩:=p d;refine⟨g,q,⟨r,λc=>?_⟩,s,i⟩;have j:=i 0 (Nat.mul_pos d e);have l:0<O xs:=by rw[f];exact Nat.mul_pos d e
 rw[c] at j;exact m _ (gG l) (by rw[j];exact gG l)
section
variable{S:Nat->Prop} {G:Int->Int->Nat->Nat->Prop} {w:World} {pb:Nat}
theorem iA {u:Value} (h:us.flatten[0]? =some u) (hl:∀x∈us,x≠[]):∃x∈us,x[0]? =some u:=by
 cases us with
 |nil=>simp at h
 |cons x us=>
  have c:=hl x (List.mem_cons_self ..)
  cases x with
  |nil=>exact absurd Q c
  |cons a x=>
   refine⟨a::x,List.mem_cons_self ..,?_⟩;simpa using h
theorem af.cT (f:w.cell? ⟨pb,0,I⟩=some (J I 0 0)):(h:Nat)->(cs:List Value)->af S G h w cs->af (λb=>S b/\b≠pb) G h w cs
 |0,_,hn=>hn
 |h+1,_,⟨kind,n,lv,av,ls,vs,h1,h2,h3,h4,h5,h6,h7⟩=>by
  refine⟨kind,n,lv,av,ls,vs,h1,h2.cT dC (λo c d=>?_),h3.cT dC (λo c d=>?_),h4,h5,h6,λx e=>af.cT f h x (h7 x e)⟩
  ·rw[f] at d;unfold aN at c;rw[List.getElem?_map] at c
   cases m:ls[0]? with
   |none=>rw[m] at c;simp at c
   |some p=>rw[m] at c;simp at c;rw[<-c] at d;simp at d
  ·obtain⟨x,e,i⟩:=iA c (λx e=>by
    cases h with
    |zero=>exact absurd (h7 x e) (λj=>j)
    |succ h=>obtain⟨k,_,_,_,_,_,l,_⟩:=h7 x e;rw[l];simp)
   cases h with
   |zero=>exact absurd (h7 x e) (λj=>j)
   |succ h=>
    obtain⟨k,q,r,s,_,_,l,_⟩:=h7 x e;rw[l] at i;rw[f] at d;simp at i;rw[<-i] at d;simp at d
theorem dZ.cT (c:w.cell? ⟨pb,0,I⟩=some (J I 0 0)) (h:dZ S D H w x):dZ (λb=>S b/\b≠pb) D H w x:=by
 obtain⟨d,e,f,i,j,l,m,n,o,p,rfl,q⟩:=h;exact⟨d,e,f,i,j,l,m,n,o,p,Q,af.cT c _ _ q⟩
theorem gU (i:w.cell? ⟨pb,0,I⟩=some (J I 0 0)) (h:∀x∈us,∃(s:ByteArray) (r:List Value),x=.string s::r):∀d,us.flatten[0]? =some d->w.cell? ⟨pb,0,I⟩≠some d:=λd j c=>by
 obtain⟨x,e,f⟩:=iA j (λx e=>by obtain⟨s,r,c⟩:=h x e;rw[c];simp);obtain⟨s,r,l⟩:=h x e;rw[l] at f;rw[i] at c;simp at f;rw[<-f] at c;simp at c
theorem sy (m:w.cell? ⟨pb,0,I⟩=some (J I 0 0)) (h:∀x∈us,af S G H w x):∀e,us.flatten[0]? =some e->w.cell? ⟨pb,0,I⟩≠some e:=λe n d=>by
 have l:∀x∈us,∃(k:Int) (f:List Value),x=vN k::f:=λx c=>by
  cases H with
  |zero=>exact absurd (h x c) (λo=>o)
  |succ H=>
   obtain⟨k,q,r,s,_,_,i,_⟩:=h x c;exact⟨k,_,i⟩
 obtain⟨x,c,j⟩:=iA n (λx c=>by obtain⟨p,f,d⟩:=l x c;rw[d];simp);obtain⟨p,f,i⟩:=l x c;rw[i] at j;rw[m] at d;simp at j;rw[<-j] at d;simp at d
theorem ig.cT (c:w.cell? ⟨pb,0,I⟩=some (J I 0 0)) (h:ig S D H X w x):ig (λb=>S b/\b≠pb) D H X w x:=by
 obtain⟨e,f,i,j,l,m,n,o,p,q,r,s,u,v,y,z,A,C,F,K,L,M,N,P,R,T,V,W,Y,Z,aa,ab,ac,ad,ae,ag,ah,ai,aj,h⟩:=h;exact⟨e,f,i,j,l,m,n,o,p,q,r,s,u,v,y,z,A,C,F,K,L,M,N,P,R,T,V,W,Y,Z,aa,ab,ac,ad,ae,ag,ah,ai,aj,⟨h.ri.cT dC (sy c h.ti),h.rv.cT dC (gU c (λx d=>by obtain⟨ak,al,ao,ap,aq,ar,au,av,aw,ax,rfl,ay⟩:=h.tv x d;exact⟨ak,_,Q⟩)),λx d=>af.cT c _ _ (h.ti x d),λx d=>(h.tv x d).cT c,af.cT c _ _ h.l',h.si,h.sv,h.so,h.li,h.lv⟩⟩
theorem iH.cT (c:w.cell? ⟨pb,0,I⟩=some (J I 0 0)) (h:iH S D H X w x):iH (λb=>S b/\b≠pb) D H X w x:=by
 obtain⟨d,e,f,i,j,l,m,n,o,p,q,r,s,u,v,y,z,A,C,F,K⟩:=h;exact⟨d,e,f,i,j,l,m,n,o,p,q,r,s,u,v,y,z,A,C,af.cT c _ _ F,K⟩
theorem eG.cT {d:Dd} (e:w.cell? ⟨pb,0,I⟩=some (J I 0 0)) (h:eG S D H X w d):eG (λb=>S b/\b≠pb) D H X w d:=
 ⟨h.row.cT dC (gU e (λx f=>by obtain⟨c,_,rfl⟩:=List.mem_map.1 f;exact⟨c.name,_,Q⟩)),λc i=>⟨(h.parts c i).1.cT dC (gU e (λx f=>by obtain⟨j,_,rfl⟩:=List.mem_map.1 f;exact⟨j.name,_,Q⟩)),(h.parts c i).2.1,λj l=>((h.parts c i).2.2 j l).cT e⟩,h.len,h.sz⟩
end
theorem PG.zx {W:World} {R:Nat} {M:MK} {m:Int} {T e f:VV} {n o p:Nat} {q:Nat->Prop} {r:OA} {u:Nat} {fo:OA} {fc:Nat} (s:MS w R ({M with mn:=m}.bu k a) T e f n o p q H) (ap:n<=96101) (ar:O f<=96100) (au:O e<=96100) (av:o<=96100) (aw:p<=96100*96100) (V:M.iv=J r (O e) u) (Y:M.fv=J fo (O f) fc) {v:Array Value} (i:w.heap[pb]? =some (Ob v 29 (0,0))) (Z:v[0]? =some (J I 0 0)) (j:∀b,b≠pb->W.heap[b]? =w.heap[b]?) (ax:E (U W)=E (U w)):∃D H:Nat,PG W D H M.df M.eo M.ds r u e fo fc f n o p:=by
 have y:w.cell? ⟨pb,0,I⟩=some (J I 0 0):=by rw[cell_of_row w pb 0 v 29 (0,0) i,Z]
 have z:aq (λb=>¬q b/\b≠pb) w W:=λb d _=>j b d.2;have A:∀b,(¬q b/\b≠pb)->b<E (U W)->b<E (U W):=λb _ h=>h;have C:E (U w)<=E (U W):=oM;have sl:=s.le (H':=H+1) (Nat.le_succ _);obtain⟨aa,ab,ac,ad⟩:=sl.jR;have l:=s.im;have F:=s.fn;have ae:({M with mn:=m}.bu k a).iv=J r (O e) u:=V;have af:({M with mn:=m}.bu k a).fv=J fo (O f) fc:=Y;rw[ae] at l;rw[af] at F;have L:=ah s.pi.cd (w':=W) (λb d _=>j b (λc=>cQ s.pi.cd i dC (c▸d)));have N:=ah l (w':=W) (λb d _=>j b (λc=>cQ l i dC (c▸d)));have P:=ah F (w':=W) (λb d _=>j b (λc=>cQ F i dC (c▸d)));exact⟨O M.ds,H+1,ro.bH L (λb c=>(L.lt b c).2),ro.bH N (λb c=>(N.lt b c).2),ro.bH P (λb c=>(P.lt b c).2),⟨aa,ab,ac,λag ai aj ak al=>(((ad ag ai aj ak al).cT y).frame z C).weaken A⟩,sl.lN.imp (λao x K=>((K.cT y).frame z C).weaken A),sl.lD.imp (λao x K=>((K.cT y).frame z C).weaken A),⟨s.pi.bj.2.1,oM,oM⟩,oM,oM,pQ l⟩
abbrev jS (w:World) (b:Nat) (c0 c1 c2 c3 c4 c5 c6:Value):World:=((((((w.setCell ⟨b,0,I⟩ c0).setCell ⟨b,1,I⟩ c1).setCell ⟨b,2,I⟩ c2).setCell ⟨b,3,I⟩ c3).setCell ⟨b,4,I⟩ c4).setCell ⟨b,5,I⟩ c5).setCell ⟨b,6,I⟩ c6
abbrev jT (w:World) (b:Nat) (c0 c1:Value):World:=(w.setCell ⟨b,0,I⟩ c0).setCell ⟨b,1,I⟩ c1
theorem iy {l j f d c:Value} (h:w.heap[b]? =some (Ob #[x0,x1,l,j,f,d,c] t (0,0))) (c0 c1 c2 c3 e i m:Value):(jS w b c0 c1 c2 c3 e i m).heap[b]? =some (Ob #[c0,c1,c2,c3,e,i,m] t (0,0)):=by
 have n:(w.setCell ⟨b,0,I⟩ c0).heap[b]? =some (Ob #[c0,x1,l,j,f,d,c] t (0,0)):=heap_setCell_same w b 0 _ t c0 h;have o:(World.setCell _ ⟨b,1,I⟩ c1).heap[b]? =some (Ob #[c0,c1,l,j,f,d,c] t (0,0)):=heap_setCell_same _ b 1 _ t c1 n;have p:(World.setCell _ ⟨b,2,I⟩ c2).heap[b]? =some (Ob #[c0,c1,c2,j,f,d,c] t (0,0)):=heap_setCell_same _ b 2 _ t c2 o;have q:(World.setCell _ ⟨b,3,I⟩ c3).heap[b]? =some (Ob #[c0,c1,c2,c3,f,d,c] t (0,0)):=heap_setCell_same _ b 3 _ t c3 p;have r:(World.setCell _ ⟨b,4,I⟩ e).heap[b]? =some (Ob #[c0,c1,c2,c3,e,d,c] t (0,0)):=heap_setCell_same _ b 4 _ t e q;have s:(World.setCell _ ⟨b,5,I⟩ i).heap[b]? =some (Ob #[c0,c1,c2,c3,e,i,c] t (0,0)):=heap_setCell_same _ b 5 _ t i r;exact heap_setCell_same _ b 6 _ t m s
theorem iz (h:w.heap[b]? =some (Ob #[x0,x1] t (0,0))) (c0 c1:Value):(jT w b c0 c1).heap[b]? =some (Ob #[c0,c1] t (0,0)):=by
 have c:=heap_setCell_same w b 0 _ t c0 h;exact heap_setCell_same _ b 1 _ t c1 c
theorem dL (h:b'≠b) (c0 c1 c2 c3 c d e:Value):(jS w b c0 c1 c2 c3 c d e).heap[b']? =w.heap[b']? :=((Below.heap_setCell _ ⟨b,6,I⟩ _ _ h).trans ((Below.heap_setCell _ ⟨b,5,I⟩ _ _ h).trans ((Below.heap_setCell _ ⟨b,4,I⟩ _ _ h).trans ((Below.heap_setCell _ ⟨b,3,I⟩ _ _ h).trans ((Below.heap_setCell _ ⟨b,2,I⟩ _ _ h).trans ((Below.heap_setCell _ ⟨b,1,I⟩ _ _ h).trans (Below.heap_setCell _ ⟨b,0,I⟩ _ _ h)))))))
theorem dN (h:b'≠b) (c0 c1:Value):(jT w b c0 c1).heap[b']? =w.heap[b']? :=((Below.heap_setCell _ ⟨b,1,I⟩ _ _ h).trans (Below.heap_setCell _ ⟨b,0,I⟩ _ _ h))
theorem gA {a:World} (h:Below B a w) (c:B<=b) (c0 c1 c2 c3 d e f:Value):Below B a (jS w b c0 c1 c2 c3 d e f):=((((((h.setCell (p:=⟨b,0,I⟩) c _).setCell (p:=⟨b,1,I⟩) c _).setCell (p:=⟨b,2,I⟩) c _).setCell (p:=⟨b,3,I⟩) c _).setCell (p:=⟨b,4,I⟩) c _).setCell (p:=⟨b,5,I⟩) c _).setCell (p:=⟨b,6,I⟩) c _
theorem gB {a:World} (h:Below B a w) (c:B<=b) (c0 c1:Value):Below B a (jT w b c0 c1):=(h.setCell (p:=⟨b,0,I⟩) c _).setCell (p:=⟨b,1,I⟩) c _
theorem heap_drew (w:World):w.drew.heap=w.heap:=rfl
theorem tJ {e:World} {c:Nat} (l:e.heap[pb]? =some (Ob (eL (J I 0 0) (J I 0 0) (J I 0 0) (J I 0 0) (J I 0 0) 0 (J I 0 0)) 29 (0,0))) (m:e.heap[c]? =some (Ob #[vN 0,vN 0] 32 (0,0))) (j:pb≠c) (n:Below (E (U w)) w e) (o:E (U w)<=pb) (p:E (U w)<=c) (q:k≠0) (f:Act) (r:f.defers=[]) (s:f.tmps.getD 2 undef=.pointer (aS pb)) (u:f.tmps.getD 3 undef=.pointer (aS c)):bodyPost Tryz.prog Tryz.f11 (gD w) .ret f (jT (jS e pb (J I 0 0) (J I 0 0) (J I 0 0) (J I 0 0) (J I 0 0) (vN 0) (J I 0 0)) c (vN k) (vN a)).drew:=by
 obtain⟨d,i⟩:∃d,d=jT (jS e pb (J I 0 0) (J I 0 0) (J I 0 0) (J I 0 0) (J I 0 0) (vN 0) (J I 0 0)) c (vN k) (vN a):=⟨_,Q⟩
 have v:d.heap[pb]? =some (Ob #[J I 0 0,J I 0 0,J I 0 0,J I 0 0,J I 0 0,vN 0,J I 0 0] 29 (0,0)):=by
  rw[i];exact(dN j _ _).trans (iy l _ _ _ _ _ _ _)
 have y:d.heap[c]? =some (Ob #[vN k,vN a] 32 (0,0)):=by
  rw[i];exact iz ((dL j.symm _ _ _ _ _ _ _).trans m) (vN k) (vN a)
 have B:Below (E (U w)) w d:=by
  rw[i];exact gB (gA n o _ _ _ _ _ _ _) p _ _
 rw[<-i];have z:d.drew.heap[pb]? =some (Ob #[J I 0 0,J I 0 0,J I 0 0,J I 0 0,J I 0 0,vN 0,J I 0 0] 29 (0,0)):=by rw[heap_drew];exact v
 have A:d.drew.heap[c]? =some (Ob #[vN k,vN a] 32 (0,0)):=by rw[heap_drew];exact y
 exact bodyPost_ret (gx Tryz.results11 s u z A) r ⟨I,0,0,I,0,0,I,0,0,I,0,0,I,0,0,0,I,0,0,k,a,Q,B.drew,λC=>absurd C q⟩
end
section
variable{pb:Nat} {w:World}
theorem isNode.inside {S:Nat->Prop} {g:Prop}:(h:Nat)->(cs:List Value)->isNode S g h w cs->isNode (λa=>a<E (U w)) g h w cs
 |0,_,hn=>hn
 |h+1,_,⟨kind,pos,n,m,name,kv,vs,h1,h2,h3,h4,h5,h6,h7,h8⟩=>⟨kind,pos,n,m,name,kv,vs,h1,h2,h3,h4,h5,λa c=>(h5.lt a c).2,λb d=>isNode.inside h b (h7 b d),h8⟩
theorem tF {i:Func} (l:i.results=#[.cell 2 29,.cell 3 32]) {d:World} {b:Nat} {k a:Int} (m:d.heap[pb]? =some (Ob (eL (J I 0 0) (J I 0 0) (J I 0 0) (J I 0 0) (J I 0 0) 0 (J I 0 0)) 29 (0,0))) (n:d.heap[b]? =some (Ob #[vN 0,vN 0] 32 (0,0))) (j:pb≠b) (o:Below (E (U w)) w d) (p:E (U w)<=pb) (q:E (U w)<=b) (r:k≠0) (e:Act) (s:e.defers=[]) (t:e.tmps.getD 2 undef=.pointer (aS pb)) (u:e.tmps.getD 3 undef=.pointer (aS b)):bodyPost Tryz.prog i (gD w) .ret e (jT (jS d pb (J I 0 0) (J I 0 0) (J I 0 0) (J I 0 0) (J I 0 0) (vN 0) (J I 0 0)) b (vN k) (vN a)).drew:=by
 obtain⟨c,f⟩:∃c,c=jT (jS d pb (J I 0 0) (J I 0 0) (J I 0 0) (J I 0 0) (J I 0 0) (vN 0) (J I 0 0)) b (vN k) (vN a):=⟨_,Q⟩
 have v:c.heap[pb]? =some (Ob #[J I 0 0,J I 0 0,J I 0 0,J I 0 0,J I 0 0,vN 0,J I 0 0] 29 (0,0)):=by
  rw[f];exact(dN j _ _).trans (iy m _ _ _ _ _ _ _)
 have x:c.heap[b]? =some (Ob #[vN k,vN a] 32 (0,0)):=by
  rw[f];exact iz ((dL j.symm _ _ _ _ _ _ _).trans n) (vN k) (vN a)
 have y:Below (E (U w)) w c:=by
  rw[f];exact gB (gA o p _ _ _ _ _ _ _) q _ _
 rw[<-f];have z:c.drew.heap[pb]? =some (Ob #[J I 0 0,J I 0 0,J I 0 0,J I 0 0,J I 0 0,vN 0,J I 0 0] 29 (0,0)):=by rw[heap_drew];exact v
 have A:c.drew.heap[b]? =some (Ob #[vN k,vN a] 32 (0,0)):=by rw[heap_drew];exact x
 exact bodyPost_ret (gx l t u z A) s ⟨I,0,0,I,0,0,I,0,0,I,0,0,I,0,0,0,I,0,0,k,a,Q,y.drew,λB=>absurd B r⟩
theorem uN {us:VV} (e:w.cell? ⟨pb,0,I⟩=some (J I 0 0)) (h:∀x∈us,∃(s:Int) (r:List Value),x=vN s::r):∀b,us.flatten[0]? =some b->w.cell? ⟨pb,0,I⟩≠some b:=λb f a=>by
 obtain⟨x,c,d⟩:=iA f (λx c=>by obtain⟨s,r,a⟩:=h x c;rw[a];simp);obtain⟨s,r,i⟩:=h x c;rw[i] at d;rw[e] at a;simp at d;rw[<-d] at a;simp at a
theorem PG.move {W:World} {D H:Nat} {q:OA} {r:Nat} {s:List Dd} {ivo:OA} {ivc:Nat} {t:VV} {u:OA} {v:Nat} {x:VV} {y z A:Nat} (p:PG w D H q r s ivo ivc t u v x y z A) {j:Array Value} (B:w.heap[pb]? =some (Ob j 29 (0,0))) (C:j[0]? =some (J I 0 0)) (F:∀b,b≠pb->W.heap[b]? =w.heap[b]?) (ar:E (U W)=E (U w)):PG W D H q r s ivo ivc t u v x y z A:=by
 have c:w.cell? ⟨pb,0,I⟩=some (J I 0 0):=by rw[cell_of_row w pb 0 j 29 (0,0) B,C]
 have d:aq (λb=>b<E (U w)/\b≠pb) w W:=λb G _=>F b G.2;have e:∀b,(b<E (U w)/\b≠pb)->b<E (U W)->b<E (U W):=λb _ h=>h;have f:E (U w)<=E (U W):=oM;obtain⟨K,L,M,N⟩:=p.jR
 exact⟨((p.da.cT dC (gU c (λi a=>by obtain⟨P,_,rfl⟩:=List.mem_map.1 a;exact⟨P.name,_,Q⟩))).frame d f).weaken e,((p.im.cT dC (uN c (λi a=>by
  obtain⟨k,l⟩:=List.mem_iff_getElem?.1 a;obtain⟨m,h⟩:=p.lN.at l;obtain⟨n,R,S,T,V,X,Y,Z,aa,ab,ac,ad,ae,af,ag,ah,ai,aj,o,-⟩:=h;exact⟨n,_,o⟩))).frame d f).weaken e,((p.fn.cT dC (gU c (λi a=>by
  obtain⟨k,l⟩:=List.mem_iff_getElem?.1 a;obtain⟨m,h⟩:=p.lD.at l;obtain⟨n,R,S,T,V,X,Y,Z,aa,ab,ac,ad,ae,af,ag,ah,ai,aj,au,av,aw,ax,ay,az,aA,aB,aC,aD,aE,aF,aG,aH,aI,aJ,aK,aL,aM,aN,o,-⟩:=h;exact⟨n,_,o⟩))).frame d f).weaken e,⟨K,L,M,λk ak al ao ap=>(((N k ak al ao ap).cT c).frame d f).weaken e⟩,p.lN.imp (λm i a=>((a.cT c).frame d f).weaken e),p.lD.imp (λm i a=>((a.cT c).frame d f).weaken e),p.bj,p.h1,p.sum,p.cap⟩
end
section
variable{bs xs:List Value} {b base e j n:Nat} {v:Value} {W:World}
theorem ze:(Tryz.prog.info? 4).map (λi=>(i.zero,i.size,i.bytes))=some (some (.bool false),1,1):=by kernel_rfl
theorem xQ:(Tryz.prog.info? 119).map (λi=>(i.zero,i.size,i.bytes))=some (some (J I 0 0),1,24):=by kernel_rfl
theorem tB {z:Value} (h:v∈(madeCells #[z] n).toList):v=z:=by
 unfold madeCells at h;simp at h;obtain⟨c,-,a⟩:=h;rw[<-a,Nat.mod_one];rfl
structure RG (w W:World) (g n:Nat) (xs:List Value) (i:Nat):Prop where
 below:Below (E (U w)) w W
 row:W.ownsRow (E (U w)) 119 1 (J (aS g) n n) n xs
 rows:∀j,j<i->∃b bs,xs[j]? =some (J (aS b) n n)/\W.ownsRow (E (U w)) 4 1 (J (aS b) n n) n bs/\∀v∈bs,∃t,v=Value.bool t
section
variable{w W W':World} {g n i:Nat} {xs:List Value}
theorem RG.le {i':Nat} (q:RG w W g n xs i) (h:i'<=i):RG w W g n xs i':=⟨q.below,q.row,λj a=>q.rows j oM⟩
theorem RG.grow (q:RG w W g n xs i) (a:Below (E (U W)) W W'):RG w W' g n xs i:=
 ⟨q.below.trans (a.mono q.below.size),ah q.row (λb _ c=>a.block b c),λj d=>by
  obtain⟨b,bs,f,k,l⟩:=q.rows j d;exact⟨b,bs,f,ah k (λb _ c=>a.block b c),l⟩⟩
theorem dq {c:Nat}:(Value.slice (aS b) n c).ownBlock=some b:=rfl
theorem RG.gl (q:RG w W g n xs i):E (U w)<=g/\g<E (U W):=q.row.lt g dq
theorem vP (w:World) (n:Nat) (q:n<=200000):∃c xs,(Instr.makeSlice 118 (vN (n:Int)) (vN (n:Int))).run Tryz.prog w=.ok (J (aS (E (U w))) n n) c/\RG w c (E (U w)) n xs 0:=by
 obtain⟨i,f,k,l,m⟩:=info_parts xQ;obtain⟨c,o,p,a⟩:=run_make_full (P:=Tryz.prog) (w:=w) (E (U w)) 118 119 i (J I 0 0) 1 Tryz.underlying118 f k l .i64 .i64 n (by rw[m];omega) (by unfold maxLen;omega) (lR _);exact⟨c,_,o,⟨⟨a.os,a.tape,a.output,a.size,λj d=>a.block j d (λe=>by simp at e)⟩,p,λj d=>by omega⟩⟩
theorem zD (W:World) (base n:Nat) (t:n<=200000) (d:base<=E (U W)):∃a bs,(Instr.makeSlice 119 (vN (n:Int)) (vN (n:Int))).run Tryz.prog W=.ok (J (aS (E (U W))) n n) a/\a.ownsRow base 4 1 (J (aS (E (U W))) n n) n bs/\(∀v∈bs,∃f,v=Value.bool f)/\Below (E (U W)) W a:=by
 obtain⟨i,k,l,m,o⟩:=info_parts ze;obtain⟨a,p,q,c⟩:=run_make_full (P:=Tryz.prog) (w:=W) base 119 4 i (.bool false) 1 Tryz.underlying119 k l m .i64 .i64 n (by rw[o];omega) (by unfold maxLen;omega) d;refine⟨a,_,p,q,λv r=>⟨false,tB (z:=.bool false) (n:=n*1) r⟩,⟨c.os,c.tape,c.output,c.size,λj s=>c.block j s (λe=>by simp at e)⟩⟩
theorem j0 (h:W.ownsRow base e 1 v n xs):O xs=n:=oH h.1
theorem RG.add (q:RG w W g n xs i) (y:i<n) (l:W.ownsRow (E (U w)) 4 1 (J (aS b) n n) n bs) (m:∀v∈bs,∃t,v=Value.bool t):RG w (W.setCell ⟨g,i,I⟩ (J (aS b) n n)) g n (xs.set i (J (aS b) n n)) (i+1):=by
 have z:=q.gl;obtain⟨A,o⟩:=aY q.row dq;have B:=j0 q.row
 have d:∀{a:Nat} {c:List Value},W.ownsRow (E (U w)) 4 1 (J (aS a) n n) n c->(W.setCell ⟨g,i,I⟩ (J (aS b) n n)).ownsRow (E (U w)) 4 1 (J (aS a) n n) n c:=λ{a c} h=>ah h (λC p _=>Below.heap_setCell _ ⟨g,i,I⟩ _ _ (by
  obtain⟨D,r⟩:=aY h p;exact aJ r o dC))
 refine⟨⟨q.below.os,q.below.tape,q.below.output,lT q.below.size sQ,λj f=>(Below.heap_setCell _ ⟨g,i,I⟩ _ _ (by show j≠g;omega)).trans (q.below.block j f)⟩,cW q.row dq i _,λj f=>?_⟩;by_cases k:j=i
 ·subst k;exact⟨b,bs,List.getElem?_set_self oM,d l,m⟩
 ·obtain⟨a,c,s,u,x⟩:=q.rows j oM;exact⟨a,c,by rw[List.getElem?_set_ne (λe=>k e.symm)];exact s,d u,x⟩
theorem RG.put (q:RG w W g n xs i) (m:W.ownsRow (E (U w)) 4 1 (J (aS b) n n) n bs) (j:Nat) (t:Bool):RG w (W.setCell ⟨b,j,I⟩ (.bool t)) g n xs i:=by
 have z:=m.lt b dq;obtain⟨A,x⟩:=aY m dq;obtain⟨B,y⟩:=aY q.row dq
 refine⟨⟨q.below.os,q.below.tape,q.below.output,lT q.below.size sQ,λc f=>(Below.heap_setCell _ ⟨b,j,I⟩ _ _ (by show c≠b;omega)).trans (q.below.block c f)⟩,ah q.row (λk l _=>Below.heap_setCell _ ⟨b,j,I⟩ _ _ (by
  obtain rfl:g=k:=by simpa[Value.ownBlock] using l
  exact aJ y x dC)),λc f=>?_⟩
 obtain⟨d,o,p,r,s⟩:=q.rows c f;by_cases u:d=b
 ·subst u;refine⟨d,o.set j (.bool t),p,cW r dq j _,λv a=>?_⟩;rcases List.mem_or_eq_of_mem_set a with a|a
  ·exact s v a
  ·exact⟨t,a⟩
 ·exact⟨d,o,p,ah r (λk l _=>Below.heap_setCell _ ⟨b,j,I⟩ _ _ (by
   obtain rfl:d=k:=by simpa[Value.ownBlock] using l
   exact u)),s⟩
theorem kG (h:W.ownsRow base e 1 (J (aS b) n n) n xs) {x:Value} (a:xs[j]? =some x):W.cell? ⟨b,j,I⟩=some x:=by
 have c:=j0 h;have d:=(gS a).1
 obtain⟨g,f,k,-,-,l⟩:=aP (vs:=xs.map (λv=>[v])) (by
  have:(xs.map (λv=>[v])).flatten=xs:=by
   clear h a c d;induction xs with
   |nil=>rfl
   |cons p q m=>simpa using m
  rw[this];exact h) (by simp[c]) (λr o=>by obtain⟨s,-,rfl⟩:=List.mem_map.1 o;rfl) (i:=j) (x:=[x]) (by rw[List.getElem?_map,a];rfl)
 obtain⟨rfl,-⟩:b=g/\n=f:=sU k;have:=l 0 dC;simpa using this
theorem sA (h:W.ownsRow base e 1 (J (aS b) n n) n xs) (j:Nat):W.frozen? ⟨b,j,I⟩=false:=by
 obtain⟨c,a⟩:=aY h dq;exact frozen_of_row W b j _ e a
theorem RG.get (q:RG w W g n xs i) {k:Nat} (f:j<i) (o:k<n):∃b bs c,W.cell? ⟨g,j,I⟩=some (J (aS b) n n)/\W.cell? ⟨b,k,I⟩=some (.bool c)/\W.frozen? ⟨b,k,I⟩=false/\b<E (U W)/\W.ownsRow (E (U w)) 4 1 (J (aS b) n n) n bs:=by
 obtain⟨b,bs,l,a,m⟩:=q.rows j f;have p:=j0 a;obtain⟨v,d⟩:∃v,bs[k]? =some v:=⟨_,gG oM⟩;obtain⟨c,rfl⟩:=m v (mG d);exact⟨b,bs,c,kG q.row l,kG a d,sA a k,(a.lt b dq).2,a⟩
end
end
theorem mM {n:Nat} {l:List Nat} (h:n∈l):n<=l.sum:=by
 induction l with
 |nil=>simp at h
 |cons b c a=>
  rw[List.sum_cons];rcases List.mem_cons.1 h with rfl|h
  ·omega
  ·have:=a h;omega
theorem uH {w:World} {au:Nat} {M:MK} {aU aV aW:VV} {ay aX aZ:Nat} {B:Nat->Prop} {H:Nat} (h:MS w au M aU aV aW ay aX aZ B H) (cs:ay<=17592186044416):
 Calls Tryz.prog 25 #[.pointer (aS au)] w (uh w au M aU aV aW ay aX aZ B H):=by
 have ct:=MF.refl h;have bO:=h.pi.bj.2.1;have dF:=h.pi.bj.1;have a0:Hid (MS w au M aU aV aW ay aX aZ B H):=h
 have cu:Hid (∀(c:Nat) (d:Dd),M.ds[c]? =some d->∃aE,aE<=ay/\eG (λl=>¬B l) (O M.ds) H aE w d):=λc d C=>by
  obtain⟨bP,cv,cw,cx⟩:=h.jR;have aF:c<O bP:=by rw[cv];exact(gS C).1
  exact⟨bP[c],lT (mM (List.getElem_mem aF)) cw,cx c d _ C (gG aF)⟩
 have a1:Hid (∀{bm:World},Below (E (U w)) w bm->aq (λl=>¬B l) w bm):=λ{bm} cy l _ cz=>cy.block l cz;have cA:=h.mk'.cell;have cB:=h.mk'.lt;obtain⟨a2,bQ⟩:∃a2,M.df=a2:=⟨_,Q⟩;go_enter Tryz.func25,Tryz.ntmps25
 by_cases cC:M.fk=0
 ·obtain⟨dG,cD,bR,aG⟩:=vP w (O M.ds) bO;obtain⟨q,bS⟩:∃q,q=E (U w):=⟨_,Q⟩;rw[<-bS] at aG bR;clear bS;have bn:=(h.mk'.below aG.below).cell;have bo:=(h.mk'.below aG.below).lt;clear h;go_wp2_with (go_at_call 30;refine(bM a0.out.mk').mono ?_;rintro a3 av ⟨rfl,aw⟩;replace aw:=aw.symm;subst aw)
  clear bn bo cA cB bR;go_loopg [4,5,7,9,11,34] (O M.ds) (λu _ _ _ _ _ D wr=>∃(c:Nat) (n:List Value),u=O M.ds - c/\D=vN c/\c<=O M.ds/\RG w wr q (O M.ds) n c)
  case atStart=>exact⟨0,cD,Q,Q,zL _,aG⟩
  case round=>
   clear aG;obtain⟨c,n,m,rfl,dH,b⟩:=hrel;have cE:Hid (gk=O M.ds - c):=m;clear m;by_cases a4:c<O M.ds
   ·have cF:(c:Int)<(O M.ds:Int):=oM;obtain⟨d,C⟩:∃d,M.ds[c]? =some d:=⟨_,gG a4⟩;obtain⟨g,aH,bT,e⟩:=(a0.out.below b.below).pi.data (i:=c) (d:=d) C;obtain rfl:a2=some ⟨g,0,I⟩:=by rw[<-bQ];exact aH
    obtain⟨aE,cG,bp⟩:=cu.out c d C;obtain⟨Y,Z,aa,ab,ac,ad,ae,ag,F,G,r,ai⟩:=d;have a5:Hid (aE<=17592186044416/\eG (λl=>¬B l) (O M.ds) H aE w ⟨Y,Z,aa,ab,ac,ad,ae,ag,F,G,r,ai⟩):=⟨lT cG cs,bp⟩;have dI:O r<=30000:=bp.len;have az:wr.cell? ⟨g,c*10,I⟩=some (.string Y):=e 0 dC;have aj:wr.cell? ⟨g,c*10+1,I⟩=some (vN Z):=e 1 dC;have a6:wr.cell? ⟨g,c*10+2,I⟩=some (vN aa):=e 2 dC;have a7:wr.cell? ⟨g,c*10+3,I⟩=some (.bool ab):=e 3 dC;have a8:wr.cell? ⟨g,c*10+4,I⟩=some (.bool ac):=e 4 dC;have a9:wr.cell? ⟨g,c*10+5,I⟩=some (.bool ad):=e 5 dC;have bV:wr.cell? ⟨g,c*10+6,I⟩=some (vN ae):=e 6 dC;have a3:wr.cell? ⟨g,c*10+7,I⟩=some (vN ag):=e 7 dC;have bX:wr.cell? ⟨g,c*10+8,I⟩=some (J F (O r) G):=e 8 dC;have bY:wr.cell? ⟨g,c*10+9,I⟩=some (vN ai):=e 9 dC;obtain⟨K,aA⟩:=al1 wr (Ob #[.string Y,vN Z,vN aa,.bool ab,.bool ac,.bool ad,vN ae,vN ag,J F (O r) G,vN ai] 69);have v:=b.grow K;obtain⟨a',cH,bZ,b0,b1,z⟩:=zD (wr.alloc (Ob #[.string Y,vN Z,vN aa,.bool ab,.bool ac,.bool ad,vN ae,vN ag,J F (O r) G,vN ai] 69)) (E (U w)) (O M.ds) bO v.below.size;have aI:=v.grow z;obtain⟨dJ,b2⟩:∃cI,n[c]? =some cI:=⟨_,gG (by rw[j0 b.row];exact a4)⟩;have cJ:=kG aI.row b2;have cK:=sA aI.row c;have cL:=aI.gl.2;have ba:=aI.add a4 b0 b1;have cM:q≠E (U wr):=oH b.gl;have aK:=(z.block _ (gE aA).1).trans aA;have cN:=λcO=>cell_of_row a' _ cO _ 69 (0,0) aK;have cP:E (U wr)<E (U a'):=(gE aK).1;obtain⟨bq,b3⟩:∃bq,bq=E (U (wr.alloc (Ob #[.string Y,vN Z,vN aa,.bool ab,.bool ac,.bool ad,vN ae,vN ag,J F (O r) G,vN ai] 69))):=⟨_,Q⟩;rw[<-b3] at bZ ba;clear b3;clear bp e C aH K b b0 b1 z v b2 aI aA aK;go_wp2_with fail;generalize hq:World.setCell a' _ _=cQ;have b4:a'.setCell ⟨q,c,I⟩ (J (aS bq) (O M.ds) (O M.ds))=cQ:=hq;rw[b4] at ba;clear hq b4 bZ cJ cK cL cN cP az aj a6 a7 a8 a9 bV a3 bX bY bT cM;go_loopg [7,9,11,47] (O r) (λu _ _ _ D av=>∃(j:Nat) (n:List Value),u=O r - j/\D=vN j/\j<=O r/\RG w av q (O M.ds) n (c+1))
    case atStart=>exact⟨0,_,Q,Q,zL _,ba⟩
    case round=>
     clear ba;obtain⟨j,n,m,rfl,bb,b⟩:=hrel;have cR:Hid (gk=O r - j):=m;clear m;by_cases al:j<O r
     ·have br:(j:Int)<(O r:Int):=oM;obtain⟨ao,bs⟩:∃ao,r[j]? =some ao:=⟨_,gG al⟩;obtain⟨bt,b5,aM,cS,e⟩:=(a5.out.2.row.frame (a1.out b.below) b.below.size).lJ sQ (λx bu=>by obtain⟨ap,_,rfl⟩:=List.mem_map.1 bu;rfl) (i:=j) (x:=ao.c) (by rw[List.getElem?_map,bs];rfl);obtain⟨rfl,rfl⟩:F=some ⟨bt,0,I⟩/\G=b5:=sU aM;have bv:=mG bs;have bc:=a5.out.2.parts ao bv
      have b6:Hid (∀p∈ao.ps,∀f,bW f w p.ty<=17592186044416):=λp aO f=>by
       have cT:=a5.out.2.sz f;have cU:=mM (List.mem_map_of_mem (f:=λp:Pt=>bW f w p.ty) aO);have cV:=mM (List.mem_map_of_mem (f:=λao:Cs=>(ao.ps.map (λp=>bW f w p.ty)).sum) bv);have cW:=a5.out.1;exact lT cU (lT cV (lT cT cW))
      obtain⟨b7,bd,bf,s⟩:=ao;have bg:Hid (ro w (λl=>¬B l) 6 (J bd (O s) bf) (O s) (s.map Pt.c).flatten/\(∀p∈s,dZ (λl=>¬B l) (O M.ds) H w p.c)/\∀p∈s,∀f,bW f w p.ty<=17592186044416):=⟨bc.1,bc.2.2,b6.out⟩;have dK:O s<=30000:=bc.2.1;have az:wr.cell? ⟨bt,j*2,I⟩=some (.string b7):=e 0 dC;have aj:wr.cell? ⟨bt,j*2+1,I⟩=some (J bd (O s) bf):=e 1 dC;obtain⟨z,-⟩:=al1 wr (Ob #[.string b7,J bd (O s) bf] 95);have v:=b.grow z;clear e aM bs bc z b bv b6;go_wp2_with fail;clear az aj cS;go_loopg [9,11,54] (O s) (λu _ _ D bw=>∃(i:Nat) (n:List Value),u=O s - i/\D=vN i/\i<=O s/\RG w bw q (O M.ds) n (c+1))
      case atStart=>exact⟨0,_,Q,Q,zL _,v⟩
      case round=>
       clear v;obtain⟨i,n,m,rfl,aF,b⟩:=hrel;have cX:Hid (gk=O s - i):=m;clear m;by_cases A:i<O s
       ·have aP:(i:Int)<(O s:Int):=oM;obtain⟨p,aO⟩:∃p,s[i]? =some p:=⟨_,gG A⟩;obtain⟨ax,cY,aM,cZ,e⟩:=(bg.out.1.frame (a1.out b.below) b.below.size).lJ sQ (λx bu=>by obtain⟨ap,aQ,rfl⟩:=List.mem_map.1 bu;obtain⟨dL,dM,dN,c0,dO,dP,dQ,dR,dS,dT,bx,-⟩:=bg.out.2.1 ap aQ;rw[bx];rfl) (i:=i) (x:=p.c) (by rw[List.getElem?_map,aO];rfl);obtain⟨rfl,rfl⟩:bd=some ⟨ax,0,I⟩/\bf=cY:=sU aM;have bz:=mG aO;obtain⟨aB,aC,L,N,P,R,T,y,V,W,bA,bB⟩:=bg.out.2.1 p bz;have bh:=bg.out.2.2 p bz H
        have b8:p.ty=(ak L N (J P R T) (J y V W)).toList:=by
         have aj:p.c.drop 2=p.ty:=rfl;rw[<-aj,bA];rfl
        rw[b8] at bh;rw[bA] at e;have az:wr.cell? ⟨ax,i*6,I⟩=some (.string aB):=e 0 dC;have aj:wr.cell? ⟨ax,i*6+1,I⟩=some (.bool aC):=e 1 dC;have a6:wr.cell? ⟨ax,i*6+2,I⟩=some (vN L):=e 2 dC;have a7:wr.cell? ⟨ax,i*6+3,I⟩=some (vN N):=e 3 dC;have a8:wr.cell? ⟨ax,i*6+4,I⟩=some (J P R T):=e 4 dC;have a9:wr.cell? ⟨ax,i*6+5,I⟩=some (J y V W):=e 5 dC;obtain⟨z,-⟩:=al1 wr (Ob (ix aB aC L N (J P R T) (J y V W)) 97);have v:=b.grow z
        have b9:Hid (∃bi,Calls Tryz.prog 46 #[.agg (ak L N (J P R T) (J y V W))] (wr.alloc (Ob (ix aB aC L N (J P R T) (J y V W)) 97)) (lq (wr.alloc (Ob (ix aB aC L N (J P R T) (J y V W)) 97)) (O M.ds) bi)/\bi<=17592186044416):=by
         have aR:=af.frame (a1.out v.below) v.below.size _ _ bB;have b':=aL (a1.out v.below) v.below.size _ _ bB H;refine⟨_,tN H aR (by rw[b'];exact bh),?_⟩;rw[b'];exact bh
        obtain⟨bi,ca,dU⟩:=b9.out;have cb:Hid (Calls Tryz.prog 46 #[.agg (ak L N (J P R T) (J y V W))] (wr.alloc (Ob (ix aB aC L N (J P R T) (J y V W)) 97)) (lq (wr.alloc (Ob (ix aB aC L N (J P R T) (J y V W)) 97)) (O M.ds) bi)):=ca;clear e aM aO bA bB z bh b8 bz b9 ca b;go_wp2_with (go_at_call 46;refine cb.out.mono ?_;rintro bx dV ⟨cc,bC,t,rfl,cd,dW,c1,c2⟩)
        have ce:=v.grow c2;clear az aj a6 a7 a8 a9 cZ v cb;have dX:O t<=17592186044416:=oM;go_loopg [11,62] (O t) (λu _ D cf=>∃(o:Nat) (n:List Value),u=O t - o/\D=vN o/\o<=O t/\RG w cf q (O M.ds) n (c+1)/\cf.ownsRow 0 3 1 (J cc (O t) bC) (O t) (aN t))
        case atStart=>exact⟨0,_,Q,Q,zL _,ce,⟨cd.1,cd.2.imp id (λ⟨g,c3,c4,c5,_,c6⟩=>⟨g,c3,c4,c5,zL _,c6⟩)⟩⟩
        case round=>
         clear ce;obtain⟨o,n,m,rfl,dY,b,bj⟩:=hrel;have c7:Hid (gk=O t - o):=m;clear m;by_cases bD:o<O t
         ·have c8:(o:Int)<(O t:Int):=oM;obtain⟨cg,c9,ch,-,d0,c'⟩:=(ro.bH (S:=λ_=>True) bj (λ_ _=>trivial)).int bD;obtain⟨rfl,rfl⟩:cc=some ⟨cg,0,I⟩/\bC=c9:=sU ch;obtain⟨ap,aQ⟩:∃ap,ap=t[o]:=⟨_,Q⟩;rw[<-aQ] at c';have bE:=c1 ap (by rw[aQ];exact List.getElem_mem bD);obtain⟨ar,rfl⟩:∃ar:Nat,ap=(ar:Int):=⟨ap.toNat,oH bE.1⟩;have da:ar<O M.ds:=oH bE.2;have d1:(ar:Int)<(O M.ds:Int):=oM;have d2:(c:Int)<(O M.ds:Int):=oM;obtain⟨l,d3,aT,bF,bk,d4,ci,bG⟩:=b.get (j:=c) (k:=ar) (Nat.lt_succ_self _) da;have db:=b.gl.2;have bH:=b.put bG ar true
          have dc:(wr.setCell ⟨l,ar,I⟩ (.bool true)).ownsRow 0 3 1 (J (aS cg) (O t) bC) (O t) (aN t):=ah bj (λaA aK _=>Below.heap_setCell _ ⟨l,ar,I⟩ _ _ (by
           obtain⟨d5,dd⟩:=aY bj aK;obtain⟨b5,de⟩:=aY bG dq;exact aJ dd de dC))
          clear aQ bE ch bG b bj;go_wp2_with fail;go_roundg (O t - (o+1))
          case measure=>rw[c7.out];omega
          case rel=>exact⟨o+1,_,Q,by go_num,bD,bH,dc⟩
         ·have c8:¬(o:Int)<(O t:Int):=oM;go_wp2_with fail;go_roundg (O s - (i+1))
          case measure=>rw[cX.out];omega
          case rel=>exact⟨i+1,_,Q,by go_num,A,b⟩
       ·have aP:¬(i:Int)<(O s:Int):=oM;go_wp2_with fail;go_roundg (O r - (j+1))
        case measure=>rw[cR.out];omega
        case rel=>exact⟨j+1,_,Q,by go_num,al,b⟩
     ·have br:¬(j:Int)<(O r:Int):=oM;go_wp2_with fail;go_roundg (O M.ds - (c+1))
      case measure=>rw[cE.out];omega
      case rel=>exact⟨c+1,_,Q,by go_num,a4,b⟩
   ·have cF:¬(c:Int)<(O M.ds:Int):=oM;have df:c=O M.ds:=oM;have cj:RG w wr q (O M.ds) n (O M.ds):=b.le oM;clear df;go_wp2_with fail;go_loopg [12,13,14] (O M.ds) (λu dg _ _ wr=>∃(k:Nat) (n:List Value),u=O M.ds - k/\dg=vN k/\k<=O M.ds/\RG w wr q (O M.ds) n (O M.ds))
    case atStart=>exact⟨0,_,Q,Q,zL _,cj⟩
    case round=>
     clear cj b;obtain⟨k,n,m,rfl,d6,b⟩:=hrel;have dh:Hid (gk=O M.ds - k):=m;clear m;by_cases bI:k<O M.ds
     ·have di:(k:Int)<(O M.ds:Int):=oM;go_wp2_with fail;go_loopg [13,14] (O M.ds) (λu dj _ av=>∃(i:Nat) (n:List Value),u=O M.ds - i/\dj=vN i/\i<=O M.ds/\RG w av q (O M.ds) n (O M.ds))
      case atStart=>exact⟨0,_,Q,Q,zL _,b⟩
      case round=>
       clear b;obtain⟨i,n,m,rfl,aF,b⟩:=hrel;have dk:Hid (gk=O M.ds - i):=m;clear m;by_cases A:i<O M.ds
       ·have aP:(i:Int)<(O M.ds:Int):=oM;go_wp2_with fail;go_loopg [14] (O M.ds) (λu dl bw=>∃(j:Nat) (n:List Value),u=O M.ds - j/\dl=vN j/\j<=O M.ds/\RG w bw q (O M.ds) n (O M.ds))
        case atStart=>exact⟨0,_,Q,Q,zL _,b⟩
        case round=>
         clear b;obtain⟨j,n,m,rfl,bb,b⟩:=hrel;have bJ:Hid (gk=O M.ds - j):=m;clear m;by_cases al:j<O M.ds
         ·have br:(j:Int)<(O M.ds:Int):=oM;obtain⟨K,dm,aR,bK,ck,cl,cm,bl⟩:=b.get (j:=i) (k:=k) A bI;obtain⟨aA,cH,dn,d7,d8,dp,d9,dr⟩:=b.get (j:=k) (k:=j) bI al;obtain⟨z,d',ea,cn,eb,ec,ds,dt⟩:=b.get (j:=i) (k:=j) A al
          obtain rfl:K=z:=by
           have:=bK.symm.trans cn;simpa using this
          have db:=b.gl.2;have bH:=b.put bl j true;clear cn ds bl dr dt cl dp
          cases aR
          ·go_wp2_with fail;go_roundg (O M.ds - (j+1))
           case measure=>rw[bJ.out];omega
           case rel=>exact⟨j+1,_,Q,by go_num,al,b⟩
          ·cases dn
           ·go_wp2_with fail;go_roundg (O M.ds - (j+1))
            case measure=>rw[bJ.out];omega
            case rel=>exact⟨j+1,_,Q,by go_num,al,b⟩
           ·go_wp2_with fail;go_roundg (O M.ds - (j+1))
            case measure=>rw[bJ.out];omega
            case rel=>exact⟨j+1,_,Q,by go_num,al,bH⟩
         ·have br:¬(j:Int)<(O M.ds:Int):=oM;go_wp2_with fail;go_roundg (O M.ds - (i+1))
          case measure=>rw[dk.out];omega
          case rel=>exact⟨i+1,_,Q,by go_num,A,b⟩
       ·have aP:¬(i:Int)<(O M.ds:Int):=oM;go_wp2_with fail;go_roundg (O M.ds - (k+1))
        case measure=>rw[dh.out];omega
        case rel=>exact⟨k+1,_,Q,by go_num,bI,b⟩
     ·have di:¬(k:Int)<(O M.ds:Int):=oM;have aD:=a0.out.below b.below;have bn:=aD.mk'.cell;have bo:=aD.mk'.lt;go_wp2_with fail;clear bn bo;obtain⟨X,du⟩:∃X,X=wr:=⟨_,Q⟩;subst du;have co:=MF.refl aD;obtain⟨ed,cp⟩:=aY b.row dq;have dv:q≠au:=aJ cp aD.mk' dC;have dw:=b.gl.2
      have dx:Hid (∀j,j<O M.ds->∃l aT,l<E (U X)/\l≠au/\X.cell? ⟨q,j,I⟩=some (J (aS l) (O M.ds) (O M.ds))/\X.cell? ⟨l,j,I⟩=some (.bool aT)):=λj bb=>by
       obtain⟨K,dm,aR,bK,ck,cl,cm,bl⟩:=b.get (j:=j) (k:=j) bb bb;obtain⟨bk,dy⟩:=aY bl dq;exact⟨K,aR,cm,aJ dy aD.mk' dC,bK,ck⟩
      have cq:Hid (Below (E (U w)) w X):=b.below;clear cp aD b;go_loopg [15,16,119] (O M.ds) (λu _ _ D av=>∃(i:Nat) (bL y:Int),u=O M.ds - i/\D=vN i/\i<=O M.ds/\MF X au M aU aV aW ay aX aZ B H av bL y)
      case atStart=>exact⟨0,_,_,Q,Q,zL _,co⟩
      case round=>
       clear co;obtain⟨i,bL,y,m,rfl,aF,o⟩:=hrel;have cr:Hid (gk=O M.ds - i):=m;clear m;by_cases A:i<O M.ds
       ·have aP:(i:Int)<(O M.ds:Int):=oM;obtain⟨d,C⟩:∃d,M.ds[i]? =some d:=⟨_,gG A⟩;obtain⟨g,aH,bT,e⟩:=o.s.pi.data (i:=i) (d:=d) C;obtain rfl:a2=some ⟨g,0,I⟩:=by rw[<-bQ];exact aH
        obtain⟨Y,Z,aa,ab,ac,ad,ae,ag,F,G,r,ai⟩:=d;have az:wr.cell? ⟨g,i*10,I⟩=some (.string Y):=e 0 dC;have aj:wr.cell? ⟨g,i*10+1,I⟩=some (vN Z):=e 1 dC;have a6:wr.cell? ⟨g,i*10+2,I⟩=some (vN aa):=e 2 dC;have a7:wr.cell? ⟨g,i*10+3,I⟩=some (.bool ab):=e 3 dC;have a8:wr.cell? ⟨g,i*10+4,I⟩=some (.bool ac):=e 4 dC;have a9:wr.cell? ⟨g,i*10+5,I⟩=some (.bool ad):=e 5 dC;have bV:wr.cell? ⟨g,i*10+6,I⟩=some (vN ae):=e 6 dC;have a3:wr.cell? ⟨g,i*10+7,I⟩=some (vN ag):=e 7 dC;have bX:wr.cell? ⟨g,i*10+8,I⟩=some (J F (O r) G):=e 8 dC;have bY:wr.cell? ⟨g,i*10+9,I⟩=some (vN ai):=e 9 dC;obtain⟨l,aT,ci,dz,bF,bk⟩:=dx.out i A;have ee:=o.kp.size;have ef:wr.cell? ⟨q,i,I⟩=some (J (aS l) (O M.ds) (O M.ds)):=(World.cell?_of_block (w:=X) (a:=⟨q,i,I⟩) (o.kp.block q dw dv)).trans bF;have eg:wr.cell? ⟨l,i,I⟩=some (.bool aT):=(World.cell?_of_block (w:=X) (a:=⟨l,i,I⟩) (o.kp.block l ci dz)).trans bk;have eh:l<E (U wr):=oM;have ei:q<E (U wr):=oM;obtain⟨K,aA⟩:=al1 wr (Ob #[.string Y,vN Z,vN aa,.bool ab,.bool ac,.bool ad,vN ae,vN ag,J F (O r) G,vN ai] 69);have bN:=o.below K;clear e C aH K bF bk
        cases aT
        ·go_wp2_with fail;go_roundg (O M.ds - (i+1))
         case measure=>rw[cr.out];omega
         case rel=>exact⟨i+1,_,_,Q,by go_num,A,bN⟩
        ·go_wp2_with (go_at_call 39;refine(bU bN.s.mk' _ _).mono ?_;rintro bx ej ⟨⟨ek,c0,rfl,dA,dB,dD⟩,-⟩;have dE:=bN.no dB dA dD)
         go_roundg (O M.ds - (i+1))
         case measure=>rw[cr.out];omega
         case rel=>exact⟨i+1,_,_,Q,by go_num,A,dE⟩
       ·have aP:¬(i:Int)<(O M.ds:Int):=oM;go_wp2_with fail;go_end0;exact⟨bL,y,Q,⟨o.s,(Kp.al cq.out).trans (o.kp.mono cq.out.size),o.hf⟩⟩
 ·have el:(M.fk==0)=false:=sU cC;go_wp2_with (go_at_call 30;refine(bM a0.out.mk').mono ?_;rintro a3 av ⟨rfl,aw⟩;replace aw:=aw.symm;subst aw)
  go_end0;exact⟨_,_,Q,ct⟩
end Go.Proofs.YtdghkacbpebcoaaGreat
