import Derived.Test.YtdghkacbpebcoaaGreatS43
namespace Go.Proofs.YtdghkacbpebcoaaGreat
open Go.RowKit
open Value renaming slice→J
open List renaming length→O
open Option renaming none→I
open World renaming heap→U
open _root_.Array renaming size→E
open Obj renaming cells→Ob
set_option linter.all false
set_option maxRecDepth 100000
set_option maxHeartbeats 0
theorem rM {S S':Nat->Prop} {G aG:Int->Int->Nat->Nat->Prop}:(h B:Nat)->∀{w:World} {ka na kb nb:Int} {la lb:Value} {l n:OA} {C j D k:Nat},af S G h w (ak ka na la (J l C j)).toList->af S' aG B w (ak kb nb lb (J n D k)).toList->
 Calls Tryz.prog 12 #[.agg (ak ka na la (J l C j)),.agg (ak kb nb lb (J n D k)),.func (.func 13) #[] #[]] w (dP w (fS h w (ak ka na la (J l C j)).toList (ak kb nb lb (J n D k)).toList))
 |0,_,_,_,_,_,_,_,_,_,_,_,_,_,_,x,_=>absurd x (λm=>m)
 |_+1,0,_,_,_,_,_,_,_,_,_,_,_,_,_,_,x=>absurd x (λm=>m)
 |h+1,B+1,w,ka,na,kb,nb,la,lb,l,n,C,j,D,k,hA,hB=>by
  obtain⟨bB,a,a6,ar,bC,bD,a7,ad⟩:=hA.parts;obtain⟨bE,b,a8,au,bF,bG,a9,ae⟩:=hB.parts;have aP:=j1 (f:=h) (ka:=ka) (na:=na) (la:=la) (kb:=kb) (nb:=nb) (lb:=lb) ar ad au ae;obtain rfl:=ar.len;obtain rfl:=au.len;have aH:Hid (fS (h+1) w (ak ka na la (J l (O a) j)).toList (ak kb nb lb (J n (O b) k)).toList↔ka=5\/kb=5\/(ka=kb/\na=nb/\O a=O b/\∀(o:Nat) m t,a[o]? =some m->b[o]? =some t->fS h w m t)):=aP;clear aP
  have a':Hid (∀(B:Nat) {w:World} {ka na kb nb:Int} {la lb:Value} {l n:OA} {C j D k:Nat},af S G h w (ak ka na la (J l C j)).toList->af S' aG B w (ak kb nb lb (J n D k)).toList->
   Calls Tryz.prog 12 #[.agg (ak ka na la (J l C j)),.agg (ak kb nb lb (J n D k)),.func (.func 13) #[] #[]] w (dP w (fS h w (ak ka na la (J l C j)).toList (ak kb nb lb (J n D k)).toList))):=λB=>rM h B
  have ac:Below (E (U w)) w ((w.alloc (Ob (ak ka na la (J l (O a) j)) 41)).alloc (Ob (ak kb nb lb (J n (O b) k)) 41)):=bY w _ _
  have av:Hid (∀i,Below (E (U w)+2) ((w.alloc (Ob (ak ka na la (J l (O a) j)) 41)).alloc (Ob (ak kb nb lb (J n (O b) k)) 41)) i->(Ce i (E (U w)) (ak ka na la (J l (O a) j)))/\(Ce i (E (U w)+1) (ak kb nb lb (J n (O b) k)))/\E (U w)+2<=E (U i)):=by
   intro i y;refine⟨λc=>(y.cell (p:=⟨E (U w),c,I⟩) sQ).trans (by rw[World.cell?_of_block (w:=w.alloc (Ob (ak ka na la (J l (O a) j)) 41)) (Below.heap_alloc _ _ _ sQ),cell_of_row _ _ c _ 41 (0,0) (heap_alloc_new _ _)]),λc=>(y.cell (p:=⟨E (U w)+1,c,I⟩) sQ).trans (by have:=cell_of_row _ _ c _ 41 (0,0) (heap_alloc_new (w.alloc (Ob (ak ka na la (J l (O a) j)) 41)) (Ob (ak kb nb lb (J n (O b) k)) 41));first|(simp;done)|(simpa using this)),?_⟩;have:=y.size;simpa using this
  by_cases aw:ka=5\/kb=5
  ·have z:Hid (ka=5\/kb=5):=aw;clear aw;go_enter Tryz.func12,Tryz.ntmps12
   go_wp2_with (go_at_call 13;refine kX.mono ?_;rintro d i ⟨s,rfl,r,u⟩;obtain rfl:s=true:=r.2 z.out;clear r)
   go_ret;have q:Below (E (U w)+2) ((w.alloc (Ob (ak ka na la (J l (O a) j)) 41)).alloc (Ob (ak kb nb lb (J n (O b) k)) 41)) i:=sU u;exact⟨true,Q,⟨λ_=>aH.out.2 (z.out.elim .inl λd=>.inr (.inl d)),λ_=>rfl⟩,ac.trans (q.mono (Nat.le_add_right _ 2))⟩
  have z:Hid (¬(ka=5\/kb=5)):=aw;clear aw;have ag:Hid (fS (h+1) w (ak ka na la (J l (O a) j)).toList (ak kb nb lb (J n (O b) k)).toList↔(ka=kb/\na=nb/\O a=O b/\∀(o:Nat) m t,a[o]? =some m->b[o]? =some t->fS h w m t)):=aH.out.trans ⟨λd=>(d.resolve_left (λd=>z.out (.inl d))).resolve_left (λd=>z.out (.inr d)),λd=>.inr (.inr d)⟩;clear aH;by_cases ah:ka=kb
  ·have ba:(ka !=kb)=false:=sU ah;have bb:Hid (ka=kb):=ah;clear ah;by_cases x:na=nb
   ·have bc:(na !=nb)=false:=sU x;have bd:Hid (na=nb):=x;clear x;by_cases ax:O a=O b
    ·have bf:((O a:Int) !=(O b:Int))=false:=by simp[ax]
     have aQ:Hid (O a=O b):=ax;clear ax;go_enter Tryz.func12,Tryz.ntmps12
     go_wp2_with (go_at_call 13;refine kX.mono ?_;rintro d i ⟨s,rfl,r,u⟩;obtain rfl:s=false:=(by cases s with|false=>rfl|true=>exact absurd (r.1 rfl) z.out);clear r;have q:Below (E (U w)+2) ((w.alloc (Ob (ak ka na la (J l (O a) j)) 41)).alloc (Ob (ak kb nb lb (J n (O b) k)) 41)) i:=(sU u);clear u;obtain⟨ay,az,aA⟩:=av.out i q;have aB:E (U w)<E (U i):=oM;have aC:E (U w)+1<E (U i):=oM)
     go_loopg [7,36] (O a) (λbg _ bh wr=>∃e:Nat,bg=O a - e/\bh=vN e/\e<=O a/\(∀o:Nat,o<e->∀m t,a[o]? =some m->b[o]? =some t->fS h w m t)/\Below (E (U w)+2) ((w.alloc (Ob (ak ka na la (J l (O a) j)) 41)).alloc (Ob (ak kb nb lb (J n (O b) k)) 41)) wr)
     case atStart=>exact⟨0,Q,Q,zL _,λo aR=>absurd aR (Nat.not_lt_zero _),q⟩
     case round=>
      clear q ay az aA aB aC;obtain⟨e,aT,rfl,bH,aU,y⟩:=hrel;have bi:Hid (gk=O a - e):=aT;have aV:Hid (∀o:Nat,o<e->∀m t,a[o]? =some m->b[o]? =some t->fS h w m t):=aU;clear aT aU;have v:Below (E (U w)) w wr:=ac.trans (y.mono (Nat.le_add_right _ 2));by_cases ai:e<O a
      ·have aD:e<O b:=by rw[<-aQ.out];exact ai
       obtain⟨F,bj,aW,bI,bk,aI⟩:=ar.nth (λm A=>af.four _ _ (ad m A)) ai;obtain⟨H,bl,aX,bJ,bm,aJ⟩:=au.nth (λm A=>af.four _ _ (ae m A)) aD;have aK:a[e]∈a:=List.getElem_mem ai;have aL:b[e]∈b:=List.getElem_mem aD;obtain⟨K,L,M,N,P,R,al1,T,aM⟩:=af.cells _ (ad _ aK);obtain⟨V,W,X,Y,Z,aa,dW,ab,aN⟩:=af.cells _ (ae _ aL);have aE:=ad _ aK;have aF:=ae _ aL;rw[aM] at aI aE;rw[aN] at aJ aF;have aY:Hid (a[e]? =some (ak K L (J M N P) (J R al1 T)).toList):=by show a[e]? =_;rw[gG ai,aM]
       have aZ:Hid (b[e]? =some (ak V W (J X Y Z) (J aa dW ab)).toList):=by show b[e]? =_;rw[gG aD,aN]
       clear aM aN aK aL;obtain⟨rfl,rfl⟩:l=some ⟨F,0,I⟩/\j=bj:=sU aW;obtain⟨rfl,rfl⟩:n=some ⟨H,0,I⟩/\k=bl:=sU aX;clear aW aX;have bn:=y.size;have bo:E (U w)+2<=E (U wr):=sU bn;have bK:F<E (U wr):=oM;have bL:H<E (U wr):=oM;have bM:E (U w)<E (U wr):=oM;have bN:E (U w)+1<E (U wr):=oM;have bO:∀c,wr.cell? ⟨E (U w),c,I⟩=(ak ka na la (J (aS F) (O a) j))[c]? :=λc=>(y.cell (p:=⟨E (U w),c,I⟩) sQ).trans (by rw[World.cell?_of_block (w:=w.alloc (Ob (ak ka na la (J (aS F) (O a) j)) 41)) (Below.heap_alloc _ _ _ sQ),cell_of_row _ _ c _ 41 (0,0) (heap_alloc_new _ _)]);have bP:∀c,wr.cell? ⟨E (U w)+1,c,I⟩=(ak kb nb lb (J (aS H) (O b) k))[c]? :=λc=>(y.cell (p:=⟨E (U w)+1,c,I⟩) sQ).trans (by have:=cell_of_row _ _ c _ 41 (0,0) (heap_alloc_new (w.alloc (Ob (ak ka na la (J (aS F) (O a) j)) 41)) (Ob (ak kb nb lb (J (aS H) (O b) k)) 41));first|(simp;done)|(simpa using this));have aj:∀c,c<4->wr.cell? ⟨F,e*4+c,I⟩=(ak K L (J M N P) (J R al1 T))[c]? :=λc aO=>(v.cell (p:=⟨F,e*4+c,I⟩) bk).trans ((aI c aO).trans sQ);have al:∀c,c<4->wr.cell? ⟨H,e*4+c,I⟩=(ak V W (J X Y Z) (J aa dW ab))[c]? :=λc aO=>(v.cell (p:=⟨H,e*4+c,I⟩) bm).trans ((aJ c aO).trans sQ);clear aI aJ;have bp:=aj 0 dC;have bQ:=aj 1 dC;have bR:=aj 2 dC;have bS:=aj 3 dC;have bq:=al 0 dC;have bT:=al 1 dC;have bU:=al 2 dC;have bV:=al 3 dC;clear aj al;simp only[Nat.add_zero] at bp bq;have a0:(e:Int)<(O a:Int):=oM;have bW:(e:Int)<(O b:Int):=oH aD;have bX:(O a:Int)<=30000:=oM;have a1:aq S w wr:=aq.below v;have a2:aq S' w wr:=aq.below v;have br:Hid (fS h wr.drew (ak K L (J M N P) (J R al1 T)).toList (ak V W (J X Y Z) (J aa dW ab)).toList↔fS h w (ak K L (J M N P) (J R al1 T)).toList (ak V W (J X Y Z) (J aa dW ab)).toList):=dK (aq.below v.drew) (aq.below v.drew) v.size h _ _ aE aF;have bs:Hid (af S G h wr (ak K L (J M N P) (J R al1 T)).toList):=af.frame a1 v.size _ _ aE;have bt:Hid (af S' aG B wr (ak V W (J X Y Z) (J aa dW ab)).toList):=af.frame a2 v.size _ _ aF;clear aE aF a1 a2 ar au ad ae a6 a8 a7 a9;go_upto_region 8 with fail
       go_cut [51] (λbu bv=>∃ao:Bool,bu=.bool (!ao)/\(ao=true↔fS h w (ak K L (J M N P) (J R al1 T)).toList (ak V W (J X Y Z) (J aa dW ab)).toList)/\Below (E (U w)+2) ((w.alloc (Ob (ak ka na la (J (aS F) (O a) j)) 41)).alloc (Ob (ak kb nb lb (J (aS H) (O b) k)) 41)) bv)
       case first=>
        go_region_with (go_at_call 12;refine(a'.out B (af.frame (aq.drew _ _) (lR _) _ _ bs.out) (af.frame (aq.drew _ _) (lR _) _ _ bt.out)).mono ?_;rintro d bZ ⟨s,rfl,r,bw⟩)
        all_goals
         go_wp2_with fail;go_meet;refine⟨s,Q,r.trans br.out,y.trans ?_⟩;exact(Below.refl _ wr).drew.trans (bw.mono bo)
       case rest=>
        obtain⟨ao,rfl,a3,a4⟩:=hcut;have a5:Hid (ao=true↔fS h w (ak K L (J M N P) (J R al1 T)).toList (ak V W (J X Y Z) (J aa dW ab)).toList):=a3;clear a3;have bx:Below (E (U w)) w wc:=ac.trans (a4.mono (Nat.le_add_right _ 2))
        cases ao
        ·go_wp2_with fail;go_ret;refine⟨false,Q,⟨λd=>absurd d dC,λd=>?_⟩,bx⟩;exact absurd (a5.out.2 ((ag.out.1 d).2.2.2 e _ _ aY.out aZ.out)) sQ
        ·go_wp2_with fail;go_roundg (O a - (e+1))
         case measure=>rw[bi.out];omega
         case rel=>
          refine⟨e+1,Q,by go_num,ai,λo aR=>?_,a4⟩;rcases Nat.lt_or_ge o e with ap|ap
          ·exact aV.out o ap
          ·obtain rfl:o=e:=oM;intro m t A q;have bz:=Option.some.inj (aY.out.symm.trans A);have bA:=Option.some.inj (aZ.out.symm.trans q);subst bz bA;exact a5.out.1 (by first|rfl|trivial)
      ·have a0:¬(e:Int)<(O a:Int):=oM;have b0:decide ((e:Int)<(O a:Int))=false:=sU a0;go_wp2_with fail;go_ret;refine⟨true,Q,⟨λ_=>ag.out.2 ⟨bb.out,bd.out,aQ.out,λo m t A q=>?_⟩,λ_=>rfl⟩,v⟩;rcases Nat.lt_or_ge o e with ap|ap
       ·exact aV.out o ap m t A q
       ·rw[List.getElem?_eq_none oM] at A;exact absurd A sQ
    ·have bf:((O a:Int) !=(O b:Int))=true:=by simp;omega
     go_enter Tryz.func12,Tryz.ntmps12
     go_wp2_with (go_at_call 13;refine kX.mono ?_;rintro d i ⟨s,rfl,r,u⟩;obtain rfl:s=false:=(by cases s with|false=>rfl|true=>exact absurd (r.1 rfl) z.out);clear r;have q:Below (E (U w)+2) ((w.alloc (Ob (ak ka na la (J l (O a) j)) 41)).alloc (Ob (ak kb nb lb (J n (O b) k)) 41)) i:=(sU u);clear u;obtain⟨ay,az,aA⟩:=av.out i q;have aB:E (U w)<E (U i):=oM;have aC:E (U w)+1<E (U i):=oM)
     go_ret;exact⟨false,Q,⟨λd=>absurd d dC,λd=>absurd (ag.out.1 d).2.2.1 ax⟩,ac.trans (q.mono (Nat.le_add_right _ 2))⟩
   ·have bc:(na !=nb)=true:=sU x;go_enter Tryz.func12,Tryz.ntmps12
    go_wp2_with (go_at_call 13;refine kX.mono ?_;rintro d i ⟨s,rfl,r,u⟩;obtain rfl:s=false:=(by cases s with|false=>rfl|true=>exact absurd (r.1 rfl) z.out);clear r;have q:Below (E (U w)+2) ((w.alloc (Ob (ak ka na la (J l (O a) j)) 41)).alloc (Ob (ak kb nb lb (J n (O b) k)) 41)) i:=(sU u);clear u;obtain⟨ay,az,aA⟩:=av.out i q;have aB:E (U w)<E (U i):=oM;have aC:E (U w)+1<E (U i):=oM)
    go_ret;exact⟨false,Q,⟨λd=>absurd d dC,λd=>absurd (ag.out.1 d).2.1 x⟩,ac.trans (q.mono (Nat.le_add_right _ 2))⟩
  ·have ba:(ka !=kb)=true:=sU ah;go_enter Tryz.func12,Tryz.ntmps12
   go_wp2_with (go_at_call 13;refine kX.mono ?_;rintro d i ⟨s,rfl,r,u⟩;obtain rfl:s=false:=(by cases s with|false=>rfl|true=>exact absurd (r.1 rfl) z.out);clear r;have q:Below (E (U w)+2) ((w.alloc (Ob (ak ka na la (J l (O a) j)) 41)).alloc (Ob (ak kb nb lb (J n (O b) k)) 41)) i:=(sU u);clear u;obtain⟨ay,az,aA⟩:=av.out i q;have aB:E (U w)<E (U i):=oM;have aC:E (U w)+1<E (U i):=oM)
   go_ret;exact⟨false,Q,⟨λd=>absurd d dC,λd=>absurd (ag.out.1 d).1 ah⟩,ac.trans (q.mono (Nat.le_add_right _ 2))⟩
end Go.Proofs.YtdghkacbpebcoaaGreat
