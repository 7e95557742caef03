import Derived.Deep.MidRow
import Derived.Deep.CutBlock
import Derived.Test.YtdghkacbpebcoaaGreatS44
import Derived.Test.YtdghkacbpebcoaaGreatS45
namespace Go.Proofs.YtdghkacbpebcoaaGreat
open Go.RowKit
open Value renaming slice→J
open List renaming length→O
open Option renaming none→I
open World renaming heap→U
open _root_.Array renaming size→E
open Obj renaming cells→Ob
set_option linter.all false
set_option maxRecDepth 100000
set_option maxHeartbeats 0
section
variable{w:World}
theorem nF {S S':Nat->Prop} {G m:Int->Int->Nat->Nat->Prop} {h n:Nat} {ka na kb nb:Int} {la lb:Value} {a b:OA} {c d e f:Nat} (j:af S G h w (ak ka na la (J a c d)).toList) (k:af S' m n w (ak kb nb lb (J b e f)).toList):
 Calls Tryz.prog 8 #[.agg (ak ka na la (J a c d)),.agg (ak kb nb lb (J b e f))] w (dP w (fS h w (ak ka na la (J a c d)).toList (ak kb nb lb (J b e f)).toList)):=by
 have i:Below (E (U w)) w ((w.alloc (Ob (ak ka na la (J a c d)) 41)).alloc (Ob (ak kb nb lb (J b e f)) 41)):=bY w _ _;have l:Hid (af S G h ((w.alloc (Ob (ak ka na la (J a c d)) 41)).alloc (Ob (ak kb nb lb (J b e f)) 41)) (ak ka na la (J a c d)).toList/\af S' m n ((w.alloc (Ob (ak ka na la (J a c d)) 41)).alloc (Ob (ak kb nb lb (J b e f)) 41)) (ak kb nb lb (J b e f)).toList/\(fS h ((w.alloc (Ob (ak ka na la (J a c d)) 41)).alloc (Ob (ak kb nb lb (J b e f)) 41)) (ak ka na la (J a c d)).toList (ak kb nb lb (J b e f)).toList↔fS h w (ak ka na la (J a c d)).toList (ak kb nb lb (J b e f)).toList)):=⟨af.frame (aq.below i) i.size _ _ j,af.frame (aq.below i) i.size _ _ k,dK (aq.below i) (aq.below i) i.size h _ _ j k⟩;clear j k;go_enter Tryz.func8,Tryz.ntmps8
 go_wp2_with (go_at_call 12;refine(rM _ _ l.out.1 l.out.2.1).mono ?_;rintro r s ⟨o,rfl,p,q⟩)
 go_ret;exact⟨o,Q,p.trans l.out.2.2,i.trans (q.mono i.size)⟩
theorem oR {a d b e:Int}:Calls Tryz.prog 5 #[.agg #[vN a,vN d],.agg #[vN b,vN e]] w (dP w (a=b/\d=e)):=by
 have j:Below (E (U w)) w ((w.alloc (Ob #[vN a,vN d] 32)).alloc (Ob #[vN b,vN e] 32)):=bY w _ _;by_cases c:a=b
 ·have k:(a==b)=true:=sU c;have f:Hid (a=b):=c;clear c;go_enter Tryz.func5,Tryz.ntmps5
  go_wp2_with fail;go_ret;exact⟨_,Q,by simp[f.out],j⟩
 ·have k:(a==b)=false:=sU c;have f:Hid (¬a=b):=c;clear c;go_enter Tryz.func5,Tryz.ntmps5
  go_wp2_with fail;go_ret;exact⟨false,Q,⟨λi=>absurd i dC,λi=>absurd i.1 f.out⟩,j⟩
end
section
variable{k k':Int} {x:List Value} {H:Nat} {au:VV} {w:World}
structure nf (w:World) (D H:Nat) (ivo:OA) (ivc:Nat) (au:VV):Prop where
 im:ro w (λb=>b<E (U w)) 10 (J ivo (O au) ivc) (O au) au.flatten
 bj:O au<=200000
 cap:O au<=ivc
 is:∀x∈au,∃X,iH (λb=>b<E (U w)) D H X w x
def gj (w:World) (H:Nat) (x y:List Value):Prop:=x[0]? =y[0]? /\fS H w ((x.drop 5).take 4) ((y.drop 5).take 4)
theorem gj.symm {a:List Value} (h:gj w H x a):gj w H a x:=⟨h.1.symm,jh H h.2⟩
def fD (w:World) (H:Nat) (au:VV) (n:Nat):Prop:=∀(i:Nat) x,i<n->au[i]? =some x->∀(j:Nat) y,j<i->au[j]? =some y->¬gj w H x y
def pG (w:World) (H:Nat) (au:VV) (k a:Int):Prop:=
 (∃(i:Nat) (x:List Value),au[i]? =some x/\k=14/\x[2]? =some (vN a)/\(∃(j:Nat) (y:List Value),j<i/\au[j]? =some y/\gj w H x y)/\fD w H au i)\/(k=0/\a=0/\fD w H au (O au))
theorem pG.eq {a s:Int} (h:pG w H au k a) (t:pG w H au k' s):k=k'/\a=s:=by
 rcases h with⟨i,x,e,rfl,B,⟨u,v,y,z,A⟩,j⟩|⟨rfl,rfl,j⟩
 ·rcases t with⟨f,l,b,rfl,m,⟨n,o,p,q,r⟩,c⟩|⟨rfl,rfl,c⟩
  ·rcases Nat.lt_trichotomy i f with d|d|d
   ·exact absurd A (c i x d e u v y z)
   ·subst d;obtain rfl:=Option.some.inj (e.symm.trans b);rw[B] at m;exact⟨Q,sU m⟩
   ·exact absurd r (j f l d b n o p q)
  ·exact absurd A (c i x (gS e).1 e u v y z)
 ·rcases t with⟨f,l,b,rfl,m,⟨n,o,p,q,r⟩,c⟩|⟨rfl,rfl,c⟩
  ·exact absurd r (j f l (gS b).1 b n o p q)
  ·exact⟨Q,Q⟩
def iF (w:World) (H:Nat) (au:VV) (e:Ending) (w':World):Prop:=∃k a,e=.returned (.agg #[vN k,vN a])/\pG w H au k a/\Below (E (U w)) w w'
theorem mN {a mod f i:Int} {gv lv b j:Value} {n:Int} {c l m o:Int} {p lv' d q:Value} {e:Int}:gj w H (bR a mod f i gv k n lv b j).toList (bR c l m o p k' e lv' d q).toList↔a=c/\fS H w (ak k n lv b).toList (ak k' e lv' d).toList:=by
 show(some (Value.int .i64 a)=some (Value.int .i64 c)/\fS H w (ak k n lv b).toList (ak k' e lv' d).toList)↔_;simp
theorem fD.succ {n:Nat} (h:fD w H au n) (i:au[n]? =some x) (l:∀(j:Nat) a,j<n->au[j]? =some a->¬gj w H x a):fD w H au (n+1):=by
 intro b m o c j a d e;rcases Nat.lt_or_ge b n with f|f
 ·exact h b m f c j a d e
 ·obtain rfl:b=n:=oM;obtain rfl:=Option.some.inj (i.symm.trans c);exact l j a d e
theorem nf.below {w':World} {D:Nat} {ivo:OA} {ivc:Nat} (h:nf w D H ivo ivc au) (z:x∈au) (v:Below (E (U w)) w w'):∃j l m n o p q k a b c d e f i r s t,x=(bR j l m n (J o p q) k a (J b c d) (J e f i) (J r s t)).toList/\af (λu=>u<E (U w)) (Gd D) H w (ak k a (J b c d) (J e f i)).toList/\af (λu=>u<E (U w)) (Gd D) H w' (ak k a (J b c d) (J e f i)).toList:=by
 obtain⟨B,j,l,m,n,o,p,q,k,a,b,c,d,e,f,i,r,s,t,A,y,-⟩:=h.is x z;exact⟨j,l,m,n,o,p,q,k,a,b,c,d,e,f,i,r,s,t,A,y,af.frame (aq.below v) v.size _ _ y⟩
end
section
variable{cs z:Array Value} {b:Nat} {t:TypeId} {w:World}
def iw (cur:Array Value):Nat->List Value->Array Value
 |_,[]=>cur
 |o,v::r=>iw (cur.setIfInBounds o v) (o+1) r
theorem iP:∀(d:List Value) (a:Nat) (w:World) (c:Array Value),w.heap[b]? =some (Ob c t (0,0))->(w.setCells b a d).heap[b]? =some (Ob (iw c a d) t (0,0))
 |[],_,_,_,h=>h
 |v::r,a,w,c,h=>iP r (a+1) _ _ (heap_setCell_same w b a c t v h)
theorem ij {d:Nat} (e:d<=b):∀(f:List Value) (a:Nat) (w c:World),Below d c w->Below d c (w.setCells b a f)
 |[],_,_,_,h=>h
 |v::r,a,w,c,h=>ij e r (a+1) _ c (h.setCell (p:=⟨b,a,I⟩) e v)
theorem fx (h:w.heap[b]? =some (Ob z t (0,0))) {n:Nat} (c:n<=z.size):w.there b 0 n:=λa d=>by
 rw[Nat.zero_add];refine⟨?_,frozen_of_row w b a z t h⟩;rw[cell_of_row w b a z t (0,0) h];simp;omega
theorem sG {g o:Nat} {x:List Value} (c:∀j,j<O x->w.cell? ⟨g,o+j,I⟩=x[j]?):w.rangeAt g o x:=λj d a=>by
 rw[c j (gS a).1];exact a
theorem gT:∀(d:List Value) (a:Nat) (c:Array Value),a+O d<=c.size->(iw c a d).toList=c.toList.take a++d++c.toList.drop (a+O d)
 |[],a,c,_=>by simp[iw]
 |v::r,a,c,h=>by
  have e:a<O c.toList:=by simp at h⊢;omega
  have f:(c.toList.set a v).take (a+1)=c.toList.take a++[v]:=by
   rw[List.take_add_one,List.getElem?_set_self e,List.take_set_of_le (lR _)];rfl
  have i:(c.toList.set a v).drop (a+1+O r)=c.toList.drop (a+1+O r):=by
   rw[List.drop_set_of_lt oM]
  rw[iw,gT r (a+1) _ (by simp at h⊢;omega),Array.toList_setIfInBounds,f,i,List.length_cons,show a+(O r+1)=a+1+O r from by omega];simp
theorem nr (h:cs.size=z.size):iw z 0 cs.toList=cs:=by
 have a:=gT cs.toList 0 z (by simp[h])
 have c:z.toList.drop (0+O cs.toList)=[]:=by
  apply List.drop_eq_nil_of_le
  simp[h]
 rw[c] at a;simp at a;exact a
theorem copied {wr:World} (a:cs.size=z.size):Below (E (U wr)) wr ((wr.alloc (Ob z t)).setCells (E (U wr)) 0 cs.toList)/\((wr.alloc (Ob z t)).setCells (E (U wr)) 0 cs.toList).heap[E (U wr)]? =some (Ob cs t (0,0)):=by
 refine⟨ij (lR _) _ _ _ _ (al1 wr _).1,?_⟩;have:=iP cs.toList 0 _ _ (al1 wr (Ob z t)).2;rw[nr a] at this;exact this
end
section
variable{tmps:Array Value} {fn:Func} {D H b ivc:Nat} {ivo:OA} {au:VV} {d0 d1:Value} {W w wr:World}
theorem fh:(Tryz.prog.info? 43).map (·.size)=some 10:=by kernel_rfl
theorem nf.len (h:nf w D H ivo ivc au):∀a∈au,O a=10:=λa c=>by
 obtain⟨e,f,i,j,k,l,m,n,o,p,q,r,s,t,u,v,x,y,z,d,-⟩:=h.is a c;rw[d];rfl
theorem nf.at (h:nf w D H ivo ivc au) {i:Nat} {x:List Value} (y:au[i]? =some x) (z:Below (E (U w)) w W):∃g m n o q r s t a c d e f j k l u fn v,ivo=some ⟨g,0,I⟩/\g<E (U W)/\x=(bR m n o q (J r s t) a c (J d e f) (J j k l) (J u fn v)).toList/\W.rangeAt g (i*10) (bR m n o q (J r s t) a c (J d e f) (J j k l) (J u fn v)).toList/\af (λb=>b<E (U w)) (Gd D) H w (ak a c (J d e f) (J j k l)).toList:=by
 obtain⟨g,M,A,G,K⟩:=h.im.lJ Q h.len y;obtain⟨N,m,n,o,q,r,s,t,a,c,d,e,f,j,k,l,u,fn,v,B,L,-⟩:=h.is x (mG y);have P:=z.size;refine⟨g,m,n,o,q,r,s,t,a,c,d,e,f,j,k,l,u,fn,v,?_,oM,B,?_,L⟩
 ·simp at A;exact A.1
 ·rw[<-B];exact sG (λC F=>(z.cell (p:=⟨g,i*10+C,I⟩) G).trans (K C (by rw[h.len x (mG y)] at F;exact F)))
theorem oV (a:fn.results=#[.cell 2 32]) (c:tmps.getD 2 undef=.pointer (aS b)) (d:W.heap[b]? =some (Ob #[d0,d1] 32 (0,0))):
 (results fn tmps).run Tryz.prog W=.ok (.agg #[d0,d1]) W:=by
 have e:=λf=>cell_of_row W b f _ 32 (0,0) d;have i:tmps[2]?.getD undef=.pointer (aS b):=sU c;simp[results,a,i,go_sem,e]
theorem kg (a:fn.results=#[.cell 2 32]) (c:tmps.getD 2 undef=.pointer (aS b)) (d:wr.heap[b]? =some (Ob #[d0,d1] 32 (0,0))) (c0 c1:Value):
 (results fn tmps).run Tryz.prog ((wr.setCell ⟨b,0,I⟩ c0).setCell ⟨b,1,I⟩ c1)=.ok (.agg #[c0,c1]) ((wr.setCell ⟨b,0,I⟩ c0).setCell ⟨b,1,I⟩ c1):=
 oV a c (heap_setCell_same _ b 1 _ 32 c1 (heap_setCell_same wr b 0 _ 32 c0 d))
theorem iD (a:Below (E (U w)) w wr) (hl:E (U w)<=b) (c0 c1:Value):Below (E (U w)) w ((wr.setCell ⟨b,0,I⟩ c0).setCell ⟨b,1,I⟩ c1):=(a.setCell (p:=⟨b,0,I⟩) hl c0).setCell (p:=⟨b,1,I⟩) hl c1
end
theorem rG {w:World} {D H:Nat} {ivo:OA} {ivc:Nat} {a:VV} {aa ab ac ad ae:Value} {ag:Int} (aI:nf w D H ivo ivc a):
 Calls Tryz.prog 7 #[.agg (eL aa ab ac (J ivo (O a) ivc) ad ag ae)] w (iF w H a):=by
 have a3:Hid (nf w D H ivo ivc a):=aI;have bM:=aI.bj;have bN:O a<=ivc:=aI.cap;clear aI;obtain⟨a4,a5,a6⟩:=dW w (Ob (eL aa ab ac (J ivo (O a) ivc) ad ag ae) 29) (Ob #[vN 0,vN 0] 32)
 have a7:Hid (∀d,Below (E (U w)+2) ((w.alloc (Ob (eL aa ab ac (J ivo (O a) ivc) ad ag ae) 29)).alloc (Ob #[vN 0,vN 0] 32)) d->d.heap[E (U w)]? =some (Ob (eL aa ab ac (J ivo (O a) ivc) ad ag ae) 29 (0,0))/\d.heap[E (U w)+1]? =some (Ob #[vN 0,vN 0] 32 (0,0))/\E (U w)+2<=E (U d)/\Below (E (U w)) w d):=by
  intro d e;have ah:E (U w)+2<=E (U d):=by have:=e.size;simpa using this
  exact⟨(e.block _ sQ).trans a5,(e.block _ sQ).trans a6,ah,a4.trans (e.mono (Nat.le_add_right _ 2))⟩
 clear a4 a5 a6;go_enter Tryz.func7,Tryz.ntmps7
 go_wp2_with fail;go_loopg [3,4,6,10] (O a) (λaO _ _ _ aD wr=>∃b:Nat,aO=O a - b/\aD=vN b/\b<=O a/\fD w H a b/\Below (E (U w)+2) ((w.alloc (Ob (eL aa ab ac (J ivo (O a) ivc) ad ag ae) 29)).alloc (Ob #[vN 0,vN 0] 32)) wr)
 case atStart=>exact⟨0,Q,Q,zL _,λbO aP bv=>absurd bv (Nat.not_lt_zero _),Below.refl _ _⟩
 case round=>
  obtain⟨b,aE,rfl,bP,a8,M⟩:=hrel;have bw:Hid (gk=O a - b):=aE;have aQ:Hid (fD w H a b):=a8;clear aE a8;obtain⟨N,ai,ah,aR⟩:=a7.out wr M;by_cases a9:b<O a
  ·have bx:(b:Int)<(O a:Int):=oM;obtain⟨aP,aT⟩:∃aP,a[b]? =some aP:=⟨_,gG a9⟩;obtain⟨g,i,P,x,R,S,T,V,j,k,l,m,n,o,p,q,W,X,Y,rfl,aU,rfl,aF,aG⟩:=a3.out.at aT aR;have a':Hid (af (λaH=>aH<E (U w)) (Gd D) H w (ak j k (J l m n) (J o p q)).toList):=aG;have ba:Hid (a[b]? =some (bR i P x R (J S T V) j k (J l m n) (J o p q) (J W X Y)).toList):=aT;clear aG aT N ai;go_upto_region 3 with fail
   refine wp_region_lit ?_;refine wpList_plain Q λv hK=>?_;go_simp;refine hK _ _ ?_;clear hK v;try simp only[Act.put,List.setIfInBounds_toArray,List.set_cons_zero,List.set_cons_succ]
   refine wpList_plain Q λv hK=>?_;go_simp;refine hK _ _ ?_;clear hK v;try simp only[Act.put,List.setIfInBounds_toArray,List.set_cons_zero,List.set_cons_succ]
   refine wpList_load_mid Q 43 (.tmp 13) Q g (b*10) Q (bR i P x R (J S T V) j k (J l m n) (J o p q) (J W X Y)).toList _ aF Tryz.underlying43 Q fh ?_;try simp only[Act.put,List.setIfInBounds_toArray,List.set_cons_zero,List.set_cons_succ]
   refine wpList_plain Q λv hK=>?_;go_simp;refine hK _ _ ?_;clear hK v;try simp only[Act.put,List.setIfInBounds_toArray,List.set_cons_zero,List.set_cons_succ]
   refine wpList_plain Q λv hK=>?_;go_simp;refine hK _ _ ?_;clear hK v;try simp only[Act.put,List.setIfInBounds_toArray,List.set_cons_zero,List.set_cons_succ]
   refine wpList_store_mid Q 43 (.tmp 4) (.tmp 14) Q (E (U wr)) 0 (bR i P x R (J S T V) j k (J l m n) (J o p q) (J W X Y)) Q Q (fx (al1 wr _).2 (show _<=_ from lR 10)) fh (Array.all_eq_true_iff_forall_mem.2 (by intro aD r;simp at r;repeat(first|(subst r;rfl)|(rcases r with r|r;(subst r;rfl))))) ?_;try simp only[Act.put,List.setIfInBounds_toArray,List.set_cons_zero,List.set_cons_succ]
   generalize hwq:World.setCells _ (E (U wr)) 0 _=y;have aV:Below (E (U wr)) wr y/\y.heap[E (U wr)]? =some (Ob (bR i P x R (J S T V) j k (J l m n) (J o p q) (J W X Y)) 43 (0,0)):=by rw[<-hwq];exact copied Q
   clear hwq;obtain⟨al,aj⟩:=aV
   have ao:Hid (∀d,Below (E (U y)) y d->d.heap[E (U w)]? =some (Ob (eL aa ab ac (J (aS g) (O a) ivc) ad ag ae) 29 (0,0))/\d.heap[E (U w)+1]? =some (Ob #[vN 0,vN 0] 32 (0,0))/\d.heap[E (U wr)]? =some (Ob (bR i P x R (J S T V) j k (J l m n) (J o p q) (J W X Y)) 43 (0,0))/\E (U w)+2<=E (U wr)/\E (U wr)<E (U d)/\Below (E (U w)+2) ((w.alloc (Ob (eL aa ab ac (J (aS g) (O a) ivc) ad ag ae) 29)).alloc (Ob #[vN 0,vN 0] 32)) d/\Below (E (U w)) w d):=by
    intro d e;have bb:E (U wr)<E (U y):=(gE aj).1;have bc:=M.trans ((al.trans (e.mono al.size)).mono ah);obtain⟨bz,bA,bQ,bB⟩:=a7.out d bc;exact⟨bz,bA,(e.block _ bb).trans aj,ah,Nat.lt_of_lt_of_le bb e.size,bc,bB⟩
   clear al aj M aR aF ah aU;obtain⟨bd,bf⟩:∃bd,bd=E (U wr):=⟨_,Q⟩;rw[<-bf] at ao⊢;clear bf;obtain⟨N,ai,aW,ah,bg,-,-⟩:=ao.out y (Below.refl _ _);have bh:=λf=>cell_of_row y _ f _ 29 (0,0) N;have bi:E (U w)<E (U y):=(gE N).1;have bS:(b:Int)<=(ivc:Int):=oM;have bT:(0:Int)<=(b:Int):=oM;clear N ai aW bg ah;go_wp2_with fail;clear bh bi;go_loopg [6,20] b (λaO _ aD bC=>∃c:Nat,aO=b - c/\aD=vN c/\c<=b/\Hid (∀(t:Nat) s,t<c->a[t]? =some s->¬gj w H (bR i P x R (J S T V) j k (J l m n) (J o p q) (J W X Y)).toList s)/\Below (E (U y)) y bC)
   case atStart=>exact⟨0,Q,Q,zL _,λt s aX=>absurd aX (Nat.not_lt_zero _),Below.refl _ _⟩
   case round=>
    obtain⟨c,aE,rfl,bU,bj,M⟩:=hrel;have bk:Hid (gk=b - c):=aE;clear aE;by_cases aY:c<b
    ·have bD:(c:Int)<(b:Int):=oM;obtain⟨s,e⟩:∃s,a[c]? =some s:=⟨_,gG oM⟩;obtain⟨bE,u,ap,ar,au,av,aw,ax,z,A,B,C,F,G,K,L,ay,az,aA,bl,aU,rfl,aF,aG⟩:=a3.out.at e (ao.out _ M).2.2.2.2.2.2;obtain rfl:g=bE:=sU bl;have bm:Hid (af (λaH=>aH<E (U w)) (Gd D) H w (ak z A (J B C F) (J G K L)).toList):=aG;have bn:Hid (a[c]? =some (bR u ap ar au (J av aw ax) z A (J B C F) (J G K L) (J ay az aA)).toList):=e;clear aG e bl;go_upto_region 6 with fail
     refine wp_region_lit ?_;refine wpList_plain Q λv hK=>?_;go_simp;refine hK _ _ ?_;clear hK v;try simp only[Act.put,List.setIfInBounds_toArray,List.set_cons_zero,List.set_cons_succ]
     refine wpList_load_mid Q 43 (.tmp 22) Q g (c*10) Q (bR u ap ar au (J av aw ax) z A (J B C F) (J G K L) (J ay az aA)).toList _ aF Tryz.underlying43 Q fh ?_;try simp only[Act.put,List.setIfInBounds_toArray,List.set_cons_zero,List.set_cons_succ]
     refine wpList_plain Q λv hK=>?_;go_simp;refine hK _ _ ?_;clear hK v;try simp only[Act.put,List.setIfInBounds_toArray,List.set_cons_zero,List.set_cons_succ]
     refine wpList_store_mid Q 43 (.tmp 6) (.tmp 23) Q (E (U wr)) 0 (bR u ap ar au (J av aw ax) z A (J B C F) (J G K L) (J ay az aA)) Q Q (fx (al1 wr _).2 (show _<=_ from lR 10)) fh (Array.all_eq_true_iff_forall_mem.2 (by intro aD r;simp at r;repeat(first|(subst r;rfl)|(rcases r with r|r;(subst r;rfl))))) ?_;try simp only[Act.put,List.setIfInBounds_toArray,List.set_cons_zero,List.set_cons_succ]
     generalize hwq:World.setCells _ (E (U wr)) 0 _=Z;have aV:Below (E (U wr)) wr Z/\Z.heap[E (U wr)]? =some (Ob (bR u ap ar au (J av aw ax) z A (J B C F) (J G K L) (J ay az aA)) 43 (0,0)):=by rw[<-hwq];exact copied Q
     clear hwq;obtain⟨al,aj⟩:=aV;have aJ:=M.trans (al.mono M.size);have bF:E (U wr)<E (U Z):=(gE aj).1;obtain⟨N,ai,aW,ah,bg,-,aK⟩:=ao.out Z aJ;clear al M aF aU N;obtain⟨bo,bp⟩:∃bo,bo=E (U wr):=⟨_,Q⟩;rw[<-bp] at aj bF⊢;clear bp;have bV:=λf=>cell_of_row Z _ f _ 43 (0,0) aW;have bW:=λf=>cell_of_row Z _ f _ 43 (0,0) aj
     have bq:Hid (¬gj w H (bR i P x R (J S T V) j k (J l m n) (J o p q) (J W X Y)).toList (bR u ap ar au (J av aw ax) z A (J B C F) (J G K L) (J ay az aA)).toList->∀(t:Nat) s,t<c+1->a[t]? =some s->¬gj w H (bR i P x R (J S T V) j k (J l m n) (J o p q) (J W X Y)).toList s):=by
      intro bG t s aX e;rcases Nat.lt_or_ge t c with br|br
      ·exact bj.out t s br e
      ·obtain rfl:t=c:=oM;obtain rfl:=Option.some.inj (bn.out.symm.trans e);exact bG
     have aZ:Hid (gj w H (bR i P x R (J S T V) j k (J l m n) (J o p q) (J W X Y)).toList (bR u ap ar au (J av aw ax) z A (J B C F) (J G K L) (J ay az aA)).toList↔i=u/\fS H w (ak j k (J l m n) (J o p q)).toList (ak z A (J B C F) (J G K L)).toList):=mN
     have bH:Hid (Calls Tryz.prog 9 #[.agg (ak z A (J B C F) (J G K L)),.agg (ak j k (J l m n) (J o p q))] Z (dP Z (fS H w (ak j k (J l m n) (J o p q)).toList (ak z A (J B C F) (J G K L)).toList))):=by
      have aL:aq (λaH=>aH<E (U w)) w Z:=aq.below aK;refine(kL H H (af.frame aL aK.size _ _ bm.out) (af.frame aL aK.size _ _ a'.out)).mono ?_;rintro a0 aB ⟨bs,rfl,aM,a1⟩;exact⟨bs,Q,aM.trans ((dK aL aL aK.size H H H bm.out a'.out).trans ⟨jh H,jh H⟩),a1⟩
     by_cases aC:u=i
     ·have bI:(u==i)=true:=sU aC;have a2:Hid (i=u):=aC.symm;clear aC;go_wp2_with (go_at_call 9;refine bH.out.mono ?_;rintro a0 aB ⟨bs,rfl,aM,a1⟩;have bt:=aJ.trans (a1.mono aJ.size);obtain⟨-,aN,bJ,bX,bY,-,bK⟩:=ao.out aB bt;have bZ:=λf=>cell_of_row aB _ f _ 43 (0,0) bJ;have b0:=λf=>cell_of_row aB _ f _ 32 (0,0) aN;have b1:=λf=>frozen_of_row aB _ f _ 32 aN;have b2:E (U w)+1<E (U aB):=(gE aN).1)
      ·refine bodyPost_ret (kg Tryz.results7 Q aN _ _) Q ⟨14,x,Q,.inl ⟨b,_,ba.out,Q,Q,⟨c,_,aY,bn.out,aZ.out.2 ⟨a2.out,aM.1 (by assumption)⟩⟩,aQ.out⟩,iD bK oM _ _⟩
      ·go_roundg (b - (c+1))
       case measure=>rw[bk.out];omega
       case rel=>exact⟨c+1,Q,by go_num,aY,bq.out (λh=>by have:=aM.2 (aZ.out.1 h).2;simp_all),bt⟩
     ·have bI:(u==i)=false:=sU aC;have a2:Hid (¬i=u):=λa0=>aC a0.symm;clear aC;go_wp2_with fail;go_roundg (b - (c+1))
      case measure=>rw[bk.out];omega
      case rel=>exact⟨c+1,Q,by go_num,aY,bq.out (λh=>a2.out (aZ.out.1 h).1),aJ⟩
    ·have bD:¬(c:Int)<(b:Int):=oM;have bu:Hid (fD w H a (b+1)/\Below (E (U w)+2) ((w.alloc (Ob (eL aa ab ac (J (aS g) (O a) ivc) ad ag ae) 29)).alloc (Ob #[vN 0,vN 0] 32)) wr):=⟨fD.succ aQ.out ba.out (λt s aX e=>bj.out t s oM e),(ao.out _ M).2.2.2.2.2.1⟩;go_wp2_with fail;go_roundg (O a - (b+1))
     case measure=>rw[bw.out];omega
     case rel=>exact⟨b+1,Q,by go_num,a9,bu.out.1,bu.out.2⟩
  ·have bx:¬(b:Int)<(O a:Int):=oM;have bL:Hid (b=O a):=(show b=O a from by omega);have bh:=λf=>cell_of_row wr _ f _ 29 (0,0) N;have bi:E (U w)<E (U wr):=(gE N).1;have b3:=λf=>cell_of_row wr _ f _ 32 (0,0) ai;have b4:=λf=>frozen_of_row wr _ f _ 32 ai;have b5:E (U w)+1<E (U wr):=(gE ai).1;go_wp2_with fail;refine bodyPost_ret (kg Tryz.results7 Q ai _ _) Q ⟨0,0,Q,.inr ⟨Q,Q,bL.out▸aQ.out⟩,iD aR oM _ _⟩
section
section
variable{w w':World} {mb:Nat} {M:MK} {trs au fns:VV} {Xd Xi Xf:Nat} {Mu Mu':Nat->Prop} {H H':Nat}
theorem MS.yk (h:MS w mb M trs au fns Xd Xi Xf Mu H) {fo:OA} {fc:Nat} (s:M.iv=J fo (O au) fc) {cs:Array Value} {Y:Nat} (j:iH (λb=>¬Mu b) (O M.ds) H Y w cs.toList) (R:cs.size=10) (one:∀u∈cs.toList,u.oneCell'=true) (t:O au<=200000) (D:TypeId) {ad:Nat} (S:ad=E (U w)):
 ∃x w',(Builtin.append_ #[25,25] D #[J fo (O au) fc,J (aS ad) 1 1]).run Tryz.prog (w.alloc (Ob cs 43))=.ok x w'/\∃d e Mu',x=J d (O au+1) e/\cz w' mb M/\KT (λi=>i≠43) w w'/\KX Mu (E (U w)) w w'/\KX Mu (E (U w)) w (w'.setCell ⟨mb,3,I⟩ (J d (O au+1) e))/\(∀b,Mu b->Mu' b)/\(∀b,b<E (U w)->Mu' b->Mu b)/\KT (λi=>i≠43/\i≠66) w (w'.setCell ⟨mb,3,I⟩ (J d (O au+1) e))/\MS (w'.setCell ⟨mb,3,I⟩ (J d (O au+1) e)) mb {M with iv:=J d (O au+1) e} trs (au++[cs.toList]) fns Xd (Xi+Y) Xf Mu' H/\(∀b,b<E (U w)->M.iv.ownBlock≠some b->w'.heap[b]? =w.heap[b]?):=by
 have y:=h.im;rw[s] at y;have ap:=h.mk'.lt;obtain⟨x,w',T,f⟩:=fj (W:=w) Tryz.underlying25 xO Q dC y (zL _) cs R one (by unfold maxLen;omega) oM D S;obtain⟨d,e,rfl⟩:=f.shape;have z:=App.kt y f;have A:=aw z h.mk' dC;have F:=KT.set A 3 (J d (O au+1) e);have l:KT (λi=>i≠43/\i≠66) w (w'.setCell ⟨mb,3,I⟩ (J d (O au+1) e)):=(z.mono (λi B=>B.1)).trans (F.mono (λi B=>B.2));have G:E (U w)<=E (U w'):=lT sQ f.grown.size;have m:E (U w)<=E (U (w'.setCell ⟨mb,3,I⟩ (J d (O au+1) e))):=sU G;have K:=f.row;have L:KX Mu (E (U w)) w w':=⟨f.grown.os,f.grown.tape,f.grown.output,G,λb a t=>(f.grown.block b (by simp;omega) (λc=>t (h.lK b (by rw[s];exact c.symm)))).trans (Below.heap_alloc _ _ _ a)⟩;have N:KX Mu (E (U w)) w (w'.setCell ⟨mb,3,I⟩ (J d (O au+1) e)):=L.setCell (p:=⟨mb,3,I⟩) (.inr h.dG) _;have n:aq (λb=>¬Mu b/\b<E (U w)) w (w'.setCell ⟨mb,3,I⟩ (J d (O au+1) e)):=λb a v=>N.block b v a.1
 have P:∀b,(Value.slice d (O au+1) e).ownBlock=some b->b<E (U w)->Mu b:=λb a v=>by
  rcases f.own with c|c
  ·exact h.lK b (by rw[s,<-c];exact a)
  ·rw[c] at a;simp at a;omega
 have o:∀b,¬Mu b->b<E (U w)->(¬Mu b/\b<E (U w)):=λb V X=>⟨V,X⟩
 have q:∀b,(¬Mu b/\b<E (U w))->b<E (U (w'.setCell ⟨mb,3,I⟩ (J d (O au+1) e)))->¬(Mu b\/(Value.slice d (O au+1) e).ownBlock=some b):=λb a _ k=>by
  rcases k with k|k
  ·exact a.1 k
  ·exact a.1 (P b k a.2)
 obtain⟨Z,aa,ab,ac⟩:=h.jR;have r:=h.pi;refine⟨_,w',T,d,e,λb=>Mu b\/(Value.slice d (O au+1) e).ownBlock=some b,Q,A,z,L,N,λb a=>.inl a,λb v a=>by rcases a with a|a;exact a;exact P b a v,l,⟨⟨?_,r.cE.kt l dC dC,r.q,ag r.cd l dC,r.bj,r.lg⟩,ag h.tr l dC,?_,ag h.fn l dC,.inl h.dG,?_,λb c=>.inl (h.ly b c),λae k b c=>.inl (h.jL ae k b c),λb c=>.inl (h.js b c),λb c=>.inl (h.jW b c),λb c=>.inr c,λb c=>.inl (h.lV b c),⟨Z,aa,ab,λaf ah ai aj ak=>(((ac af ah ai aj ak).weaken o).frame n m).weaken q⟩,λC j=>(((h.jo C j).weaken o).frame n m).weaken q,?_,h.lD.imp (λY C j=>((j.weaken o).frame n m).weaken q)⟩,λb a t=>(f.grown.block b (by simp;omega) (λc=>t (by rw[s];exact c.symm))).trans (Below.heap_alloc _ _ _ a)⟩
 ·have:=heap_setCell_same w' mb 3 _ 66 (J d (O au+1) e) A;simpa using this
 ·have al:O (au++[cs.toList])=O au+1:=sQ;have ao:(au++[cs.toList]).flatten=au.flatten++cs.toList:=sQ;rw[al,ao];exact ag K F dC
 ·intro b a;rcases a with a|a
  ·have:=h.mlt b a;omega
  ·have:=(K.lt b a).2;simpa using this
 ·exact(h.lN.imp (λY C j=>((j.weaken o).frame n m).weaken q)).snoc (((j.weaken o).frame n m).weaken q)
theorem MS.write (h:MS w mb M trs au fns Xd Xi Xf Mu H) {b:Nat} {c0:Array Value} {t0:TypeId} (e:w.heap[b]? =some (Ob c0 t0 (0,0))) (r:Mu b) (c:t0≠74/\t0≠129/\t0≠102/\t0≠104/\t0≠69/\t0≠66) (s:M.iv.ownBlock≠some b) (o:Nat) (u:Value):MS (w.setCell ⟨b,o,I⟩ u) mb M trs au fns Xd Xi Xf Mu H:=by
 have f:KT (λt=>t≠t0) w (w.setCell ⟨b,o,I⟩ u):=KT.set e _ _;have n:KX Mu (E (U w)) w (w.setCell ⟨b,o,I⟩ u):=(KX.refl _ _ _).setCell (p:=⟨b,o,I⟩) (.inr r) _;have l:aq (λd=>¬Mu d) w (w.setCell ⟨b,o,I⟩ u):=λd e q=>n.block d q e;have i:=n.size;obtain⟨v,x,y,z⟩:=h.jR;have j:=h.pi;exact⟨⟨aw f h.mk' (λa=>c.2.2.2.2.2 a.symm),j.cE.kt f (λa=>c.2.2.1 a.symm) (λa=>c.2.2.2.1 a.symm),j.q,ag j.cd f (λa=>c.2.2.2.2.1 a.symm),j.bj,j.lg⟩,ag h.tr f (λa=>c.1 a.symm),ah h.im (λd A q=>Below.heap_setCell _ ⟨b,o,I⟩ _ _ (λa=>s (by rw[A,a]))),ag h.fn f (λa=>c.2.1 a.symm),h.dG,λd e=>Nat.lt_of_lt_of_le (h.mlt d e) i,h.ly,h.jL,h.js,h.jW,h.lK,h.lV,⟨v,x,y,λB C D F G=>(z B C D F G).frame l i⟩,λm k=>(h.jo m k).frame l i,h.lN.imp (λK m k=>k.frame l i),h.lD.imp (λK m k=>k.frame l i)⟩
end
end
section
variable{e:Ending} {l:List Nat} {xs:List Value} {M:MK} {B0 H Xd Xf Xi Y cb i mb n x:Nat} {Mu:Nat->Prop} {ko:OA} {fns au ks trs:VV} {w w':World}
theorem bL (l:List Nat) (i:Nat):(l.take i).sum<=l.sum:=by
 induction l generalizing i with
 |nil=>simp
 |cons x c b=>
  cases i with
  |zero=>simp
  |succ i=>
   rw[List.take_succ_cons,List.sum_cons,List.sum_cons];have:=b i;omega
theorem aV (h:l[i]? =some x):(l.take (i+1)).sum=(l.take i).sum+x:=by
 rw[List.take_add_one,h,List.sum_append];simp
theorem nP (h:l[i]? =some x):x<=(l.take (i+1)).sum:=by
 rw[aV h];omega
theorem qe (Y e:Nat):4*(Y*(Y+e))<=(Y+(Y+e))*(Y+(Y+e)):=by
 have b:(Y+(Y+e))*(Y+(Y+e))=4*(Y*Y)+4*(Y*e)+e*e:=by
  simp only[Nat.mul_add,Nat.add_mul,Nat.mul_comm e Y];omega
 rw[b,Nat.mul_add];omega
theorem qX {b:Nat} (h:Y+b<=96100):6100*(Y*b)<=17592186044416:=by
 have d:4*(Y*b)<=96100*96100:=by
  rcases Nat.le_total Y b with c|c
  ·obtain⟨e,rfl⟩:∃e,b=Y+e:=⟨b - Y,oM⟩;exact lT (qe Y e) (Nat.mul_le_mul h h)
  ·obtain⟨e,rfl⟩:∃e,Y=b+e:=⟨Y - b,oM⟩;rw[Nat.mul_comm (b+e) b];exact lT (qe b e) (Nat.mul_le_mul oM oM)
 omega
theorem FK.yQ {h:Nat} {kc:Nat} {j:VV} (f:FK B0 h w ko kc ks j Y):∀x∈j,isNode (λu=>u<B0) True (h+1) w x:=by
 intro x v;obtain⟨b,o,y⟩:=List.getElem_of_mem v;have z :j[b]? =some x:=by rw[gG o,y]
 obtain⟨g,aa,ab,ac,ad,af,ag,ah,ai,aj,ak,al,ao,ap,aq,e,ar,-,p,A,-⟩:=f.par b o;have au:=f.len;obtain⟨m,q⟩:∃m,ks[b+1]? =some m:=⟨_,gG oM⟩;have r:=f.node m (mG q);obtain⟨B,C,d,-,D⟩:=f.row.nth q;have F:=r;obtain⟨G,L,N,P,R,S,T,V,rfl,-⟩:=isNode.cells r;rw[e] at d;obtain⟨rfl,rfl⟩:g=B/\C=0:=by simp at d;exact⟨d.1,d.2.symm⟩
 have W:x=(ae G L N P R (J S T V)).toList:=by
  rw[z] at p;have X:=Option.some.inj p;rw[X];refine List.ext_getElem? (λc=>?_);by_cases s:c<11
  ·have Z:=A c s;have t:=D c s;rw[show 0+(b+1)*11+c=11+b*11+c by omega] at t;exact Z.symm.trans t
  ·rw[List.getElem?_eq_none (by simp;omega),List.getElem?_eq_none (by simp;omega)]
 rw[W];exact F
theorem jE.kx (h:jE w mb cb M trs au fns Xd Xi Xf Mu H Y e w'):KX Mu (E (U w)) w w':=by
 obtain⟨_,_,_,_,_,_,_,_,_,_,b,_⟩:=h;exact b
theorem u5 (h:n∈l):n<=l.sum:=by
 induction l with
 |nil=>simp at h
 |cons x c b=>
  rw[List.sum_cons];rcases List.mem_cons.1 h with rfl|h
  ·omega
  ·have:=b h;omega
structure IE (w2:World) (mb cb:Nat) (M:MK) (trs au fns:VV) (Xd Xi Xf:Nat) (Mu:Nat->Prop) (H:Nat) (wr:World) (k a:Int) (K:CK) (how next one fk fa:Int):Prop where
 s:MS wr mb (M.bu k a) trs au fns Xd Xi Xf Mu H
 kx:KX Mu (E (U w2)) w2 wr
 cv:bJ wr cb K how next one fk fa
 mY:Mu cb
 hf:M.fk≠0->k=M.fk
section
variable{w2 wr w':World} {mb cb:Nat} {M:MK} {trs au fns:VV} {Xd Xi Xf:Nat} {Mu:Nat->Prop} {H:Nat} {k a k' a':Int} {K K':CK} {how next one fk fa how' next' one' fk' fa':Int}
theorem IE.below (q:IE w2 mb cb M trs au fns Xd Xi Xf Mu H wr k a K how next one fk fa) (b:Below (E (U wr)) wr w'):IE w2 mb cb M trs au fns Xd Xi Xf Mu H w' k a K how next one fk fa:=
 ⟨q.s.below b,q.kx.trans ((KX.al b).mono (λ_ _ h=>h) q.kx.size),(b.block _ (gE q.cv).1).trans q.cv,q.mY,q.hf⟩
theorem IE.no (q:IE w2 mb cb M trs au fns Xd Xi Xf Mu H wr k a K how next one fk fa) (b:Kp (E (U wr)) mb wr w') (c:cz w' mb ((M.bu k a).bu k' a')) (d:(M.bu k a).fk≠0->k'=(M.bu k a).fk):IE w2 mb cb M trs au fns Xd Xi Xf Mu H w' k' a' K how next one fk fa:=
 ⟨q.s.no c b,q.kx.trans ((KX.cI b q.s.dG).mono (λ_ _ h=>h) q.kx.size),(b.block _ (gE q.cv).1 (aJ q.cv q.s.mk' dC)).trans q.cv,q.mY,λh=>by have e:=q.hf h;have:=d (by show k≠0;rw[e];exact h);rw[this];exact e⟩
theorem IE.nQ (q:IE w2 mb cb M trs au fns Xd Xi Xf Mu H wr k a K how next one fk fa) (c:KX (λb=>b=cb\/b=mb) (E (U wr)) wr w') (f:bJ w' cb K' how' next' one' fk' fa') (j:cz w' mb ((M.bu k a).bu k' a')) (m:(M.bu k a).fk≠0->k'=(M.bu k a).fk):IE w2 mb cb M trs au fns Xd Xi Xf Mu H w' k' a' K' how' next' one' fk' fa':=by
 have d:KX Mu (E (U wr)) wr w':=c.mono (λb _ e=>by rcases e with rfl|rfl;exact q.mY;exact q.s.dG) (lR _);exact⟨q.s.step d (KT.kx q.cv q.s.mk' c) j,q.kx.trans (d.mono (λ_ _ h=>h) q.kx.size),f,q.mY,λh=>by have e:=q.hf h;have:=m (by show k≠0;rw[e];exact h);rw[this];exact e⟩
theorem IE.kp (q:IE w2 mb cb M trs au fns Xd Xi Xf Mu H wr k a K how next one fk fa) (b:Kp (E (U wr)) cb wr w') (c:bJ w' cb K' how' next' one' fk' fa'):IE w2 mb cb M trs au fns Xd Xi Xf Mu H w' k a K' how' next' one' fk' fa':=
 ⟨q.s.step (KX.cI b q.mY) ((KT.kp q.cv b).mono (λf d=>d.1)) ((b.block _ q.s.mk'.lt (aJ q.s.mk' q.cv dC)).trans q.s.mk'),q.kx.trans ((KX.cI b q.mY).mono (λ_ _ h=>h) q.kx.size),c,q.mY,q.hf⟩
end
theorem gy {base e size:Nat} {v:Value} (h:w.ownsRow base e size v n xs):w.ownsRow 0 e size v n xs:=⟨h.1,h.2.imp id (λ⟨g,b,c,d,_,f⟩=>⟨g,b,c,d,zL _,f⟩)⟩
theorem GK.frame (q:GK B0 w ko ks) (o:aq (λb=>b<B0) w w') (ad:B0<=E (U w)):GK B0 w' ko ks:=by
 have cl:∀{g c:Nat},g<B0->w'.cell? ⟨g,c,I⟩=w.cell? ⟨g,c,I⟩:=λ{g c} d=>World.cell?_of_block (w:=w) (a:=⟨g,c,I⟩) (o g d oM);refine⟨q.len,λp r=>?_⟩;obtain⟨g,s,t,u,v,y,z,A,B,e,d,C,D,F,G⟩:=q.er p r;refine⟨g,s,t,u,v,y,z,A,B,e,d,C,D,λf j=>(cl d).trans (F f j),λf j=>?_⟩;obtain⟨L,N,P,R,S,T,V,W,X,Z,m,aa,ab⟩:=G f j;exact⟨L,N,P,R,S,T,V,W,X,Z,m,aa,λi ac=>(cl m).trans (ab i ac)⟩
structure IL (wl:World) (mb cb ib:Nat) (M:MK) (trs au fns:VV) (Xd Xi Xf:Nat) (Mu0:Nat->Prop) (H0:Nat) (cv:Array Value) (im:Value->Array Value) (i Y:Nat) (Mu:Nat->Prop) (H:Nat) (fo:OA) (fc:Nat) (fns':VV) (Xf':Nat) (io:OA) (ic:Nat) (xs:List Value) (wr:World) (k a:Int):Prop where
 s:MS wr mb ({M with fv:=J fo (O fns') fc}.bu k a) trs au fns' Xd Xi Xf' Mu H
 kx:KX Mu0 (E (U wl)) wl wr
 yF:wr.heap[cb]? =some (Ob cv 114 (0,0))
 wF:wr.heap[ib]? =some (Ob (im (J io (O xs) ic)) 43 (0,0))
 row:wr.ownsRow (E (U wl)) 3 1 (J io (O xs) ic) (O xs) xs
 own:∀b,(Value.slice io (O xs) ic).ownBlock=some b->Mu b
 xE:Mu0 ib
 mY:Mu0 cb
 m0:Mu0 mb
 m1:∀b,Mu0 b->Mu b
 m2:∀b,b<E (U wl)->Mu b->Mu0 b
 hf:M.fk≠0->k=M.fk
 fl:O fns'<=O fns+i
 fe:k=0->O fns'=O fns+i
 xf:Xf'<=Xf+Y
 hH:H0<=H
section
variable{wl wr w':World} {mb cb ib:Nat} {M:MK} {trs au fns:VV} {Xd Xi Xf:Nat} {Mu0:Nat->Prop} {H0:Nat} {cv:Array Value} {im:Value->Array Value} {i Y:Nat} {Mu:Nat->Prop} {H:Nat} {fo:OA} {fc:Nat} {fns':VV} {Xf':Nat} {io:OA} {ic:Nat} {xs:List Value} {k a:Int}
theorem IL.below (q:IL wl mb cb ib M trs au fns Xd Xi Xf Mu0 H0 cv im i Y Mu H fo fc fns' Xf' io ic xs wr k a) (c:Below (E (U wr)) wr w'):IL wl mb cb ib M trs au fns Xd Xi Xf Mu0 H0 cv im i Y Mu H fo fc fns' Xf' io ic xs w' k a:=by
 have f:∀{b:Nat} {d:Obj},wr.heap[b]? =some d->w'.heap[b]? =some d:=λ{b d} h=>(c.block b (gE h).1).trans h;exact⟨q.s.below c,q.kx.trans ((KX.al c).mono (λ_ _ h=>h) q.kx.size),f q.yF,f q.wF,ah q.row (λb _ h=>c.block b h),q.own,q.xE,q.mY,q.m0,q.m1,q.m2,q.hf,q.fl,q.fe,q.xf,q.hH⟩
theorem IL.same (q:IL wl mb cb ib M trs au fns Xd Xi Xf Mu0 H0 cv im i Y Mu H fo fc fns' Xf' io ic xs wr k a):aq (λb=>¬Mu b) wl wr:=λb c d=>q.kx.block b d (λh=>c (q.m1 b h))
theorem IL.wk (q:IL wl mb cb ib M trs au fns Xd Xi Xf Mu0 H0 cv im i Y Mu H fo fc fns' Xf' io ic xs wr k a):∀b,¬Mu0 b->b<E (U wl)->¬Mu b:=λb c d f=>c (q.m2 b d f)
theorem IL.method (q:IL wl mb cb ib M trs au fns Xd Xi Xf Mu0 H0 cv im i Y Mu H fo fc fns' Xf' io ic xs wr k a) {s:Nat} (y:jE wr mb cb ({M with fv:=J fo (O fns') fc}.bu k a) trs au fns' Xd Xi Xf' Mu H s e w') (t:k=0):
 ∃(k' a':Int) (f:VV) (j:OA) (m:Nat) (o:Nat->Prop) (p r:Nat),e=.returned (.tuple #[])/\IL wl mb cb ib M trs au fns Xd Xi Xf Mu0 H0 cv im (i+1) (Y+s) o r j m f p io ic xs w' k' a':=by
 obtain⟨k',a',f,j,m,o,p,r,z,A,B,C,u,D,F,P,R,d,G,v⟩:=y;have S:=q.fl;have L:=q.fe t;have T:=q.xf;have N:=q.kx.size;refine⟨k',a',f,j,m,o,p,r,z,⟨A,?_,C.trans q.yF,aw v q.wF dC,ag q.row v dC,λb e=>u b (q.own b e),q.xE,q.mY,q.m0,λb c=>u b (q.m1 b c),λb d c=>q.m2 b d (D b oM c),λh=>absurd (q.hf h) (by rw[t];exact λe=>h e.symm),oM,λe=>by rw[G e,L];omega,oM,lT q.hH F⟩⟩;exact q.kx.trans (B.mono (λb d c=>q.m2 b d c) N)
theorem IL.push (q:IL wl mb cb ib M trs au fns Xd Xi Xf Mu0 H0 cv im i Y Mu H fo fc fns' Xf' io ic xs wr k a) (F:∀v u,(im v).setIfInBounds 9 u=im u) (X:ib<E (U wl)) (G:M.iv.ownBlock≠some ib) (x:Int) (y:O xs<=20000) (z:TypeId) {ad:Nat} (L:ad=E (U wr)):
 ∃s w',(Builtin.append_ #[38,38] z #[J io (O xs) ic,J (aS ad) 1 1]).run Tryz.prog (wr.alloc (Ob #[vN x] 3))=.ok s w'/\∃d f N,s=J d (O xs+1) f/\w'.heap[ib]? =some (Ob (im (J io (O xs) ic)) 43 (0,0))/\IL wl mb cb ib M trs au fns Xd Xi Xf Mu0 H0 cv im i Y N H fo fc fns' Xf' d f (xs++[vN x]) (w'.setCell ⟨ib,9,I⟩ (J d (O xs+1) f)) k a:=by
 have A:=q.kx.size;obtain⟨s,w',P,j⟩:=fj (W:=wr) Tryz.underlying38 rf Q dC q.row A #[vN x] rfl (mC x) (by unfold maxLen;omega) oM z L;obtain⟨d,f,rfl⟩:=j.shape;have o:=App.kt q.row j;have R:E (U wr)<=E (U w'):=lT sQ j.grown.size;have B:KX Mu (E (U wr)) wr w':=⟨j.grown.os,j.grown.tape,j.grown.output,R,λb c y=>(j.grown.block b (by simp;omega) (λe=>y (q.own b e.symm))).trans (Below.heap_alloc _ _ _ c)⟩
 have S:∀b,(Value.slice d (O xs+1) f).ownBlock=some b->b<E (U wr)->Mu b:=λb c m=>by
  rcases j.own with e|e
  ·exact q.own b (by rw[<-e];exact c)
  ·rw[e] at c;simp at c;omega
 have t:O (xs++[Value.int .i64 x])=O xs+1:=sQ;have C:∀b,b<E (U wr)->(Mu b\/(Value.slice d (O xs+1) f).ownBlock=some b)->Mu b:=λb m c=>by rcases c with c|c;exact c;exact S b c m
 have r:=aw o q.wF dC;have T:MS w' mb ({M with fv:=J fo (O fns') fc}.bu k a) trs au fns' Xd Xi Xf' (λb=>Mu b\/(Value.slice d (O xs+1) f).ownBlock=some b) H:=q.s.move (k:=k) (a:=a) B o dC (aw o q.s.mk' dC) (λb c=>.inl c) (λb c=>by rcases c with c|c;(have:=q.s.mlt b c;omega);exact(j.row.lt b c).2) C;have D:=KT.set r 9 (J d (O xs+1) f);refine⟨_,w',P,d,f,λb=>Mu b\/(Value.slice d (O xs+1) f).ownBlock=some b,Q,r,⟨?_,?_,aw D (aw o q.yF dC) dC,?_,?_,?_,q.xE,q.mY,q.m0,λb c=>.inl (q.m1 b c),λb m c=>q.m2 b m (C b oM c),q.hf,q.fl,q.fe,q.xf,q.hH⟩⟩
 ·exact T.write r (.inl (q.m1 _ q.xE)) dC G 9 _
 ·have V:KX Mu0 (E (U wl)) wl w':=q.kx.trans (B.mono (λb m c=>q.m2 b m c) A);exact V.setCell (p:=⟨ib,9,I⟩) (.inr q.xE) _
 ·have:=heap_setCell_same w' ib 9 _ 43 (J d (O xs+1) f) r;rw[F] at this;rw[t];exact this
 ·rw[t];exact ag j.row D dC
 ·intro b c;rw[t] at c;exact .inr c
end
end
theorem lh {P a:Prop} (h:(True->P)->a) (p:P):a:=h (λ_=>p)
def bB:List Value->Nat
 |.int _ k::_::_::_::_::kv::_=>if k=8 then 1 else if k=7 then lenOf kv - 2 else 0
 |_=>0
section
variable{F F':Nat} {Mu':Nat->Prop} {r:Nm}
theorem vq:(Tryz.prog.info? 104).map (λb=>(b.zero,b.size,b.bytes))=some (some (.agg #[.string ⟨#[]⟩,zI,zI,.bool false]),4,40):=by kernel_rfl
section
variable{w w':World} {mb:Nat} {M:MK} {trs au fns:VV} {Xd Xi Xf:Nat} {Mu Mu':Nat->Prop} {H H':Nat}
theorem MS.other (h:MS w mb M trs au fns Xd Xi Xf Mu H) {Y:Nat->Prop} (e:KX Y (E (U w)) w w') (y:∀b,Y b->Mu b) (z:¬Y mb) (t:∀b,(Value.slice M.mo (O M.ms) M.mc).ownBlock=some b->¬Y b) (u:∀m∈M.ms,∀b,(Value.slice m.ao (O m.ns) m.cp).ownBlock=some b->¬Y b) (A:∀b,(Value.slice M.df (O M.ds) M.eo).ownBlock=some b->¬Y b) (B:∀b,M.tv.ownBlock=some b->¬Y b) (C:∀b,M.iv.ownBlock=some b->¬Y b) (D:∀b,M.fv.ownBlock=some b->¬Y b) (i:∀b,Mu b->Mu' b) (G:∀b,Mu' b->b<E (U w')) (K:∀b,b<E (U w)->Mu' b->Mu b):MS w' mb M trs au fns Xd Xi Xf Mu' H:=by
 have n:aq (λb=>¬Mu b/\b<E (U w)) w w':=λb o d=>e.block b d (λv=>o.1 (y b v));have p:=e.size;have q:∀b,¬Mu b->b<E (U w)->(¬Mu b/\b<E (U w)):=λb t u=>⟨t,u⟩;have s:∀b,(¬Mu b/\b<E (U w))->b<E (U w')->¬Mu' b:=λb o _ j=>o.1 (K b o.2 j);obtain⟨L,N,P,R⟩:=h.jR;have f:=h.pi;exact⟨⟨(e.block _ h.mk'.lt z).trans h.mk',⟨ah f.cE.row (λb c d=>e.block b d (t b c)),f.cE.bj,λm j=>⟨ah (f.cE.names m j).1 (λb c d=>e.block b d (u m j b c)),(f.cE.names m j).2⟩⟩,f.q,ah f.cd (λb c d=>e.block b d (A b c)),f.bj,f.lg⟩,ah h.tr (λb c d=>e.block b d (B b c)),ah h.im (λb c d=>e.block b d (C b c)),ah h.fn (λb c d=>e.block b d (D b c)),i _ h.dG,G,λb c=>i _ (h.ly b c),λm j b c=>i _ (h.jL m j b c),λb c=>i _ (h.js b c),λb c=>i _ (h.jW b c),λb c=>i _ (h.lK b c),λb c=>i _ (h.lV b c),⟨L,N,P,λS T V W v=>(((R S T V W v).weaken q).frame n p).weaken s⟩,λx l=>(((h.jo x l).weaken q).frame n p).weaken s,h.lN.imp (λY x l=>((l.weaken q).frame n p).weaken s),h.lD.imp (λY x l=>((l.weaken q).frame n p).weaken s)⟩
end
def rJ (D T F:Nat) (r:Nm):Prop:=NQ D T r/\(r.sort=3->r.n<(F:Int))
theorem rJ.mono {D T c T':Nat} (h:rJ D T F r) (d:D<=c) (e:T<=T') (hF:F<=F'):rJ c T' F' r:=⟨⟨h.1.1,λb=>oH (h.1.2.1 b),λb=>oH (h.1.2.2 b)⟩,λb=>oH (h.2 b)⟩
structure NE (wb:World) (mb kb:Nat) (M:MK) (trs:VV) (Xd Xi Xf:Nat) (Mu0 Mu:Nat->Prop) (H:Nat) (nm:ByteArray) (ow:Int) (no:OA) (nc:Nat) (ns:List Nm) (F:Nat) (wr:World):Prop where
 s:MS wr mb M trs [] [] Xd Xi Xf Mu H
 ie:wr.heap[kb]? =some (Ob #[.string nm,J no (O ns) nc,vN ow] 102 (0,0))
 row:wr.ownsRow (E (U wb)) 104 4 (J no (O ns) nc) (O ns) (ns.map Nm.c).flatten
 own:∀b,(Value.slice no (O ns) nc).ownBlock=some b->Mu b
 qY:Mu kb
 qZ:E (U wb)<=kb
 oB:∀b,(Value.slice M.mo (O M.ms) M.mc).ownBlock=some b->b<E (U wb)
 lM:∀m∈M.ms,∀b,(Value.slice m.ao (O m.ns) m.cp).ownBlock=some b->b<E (U wb)
 kx:KX Mu0 (E (U wb)) wb wr
 m0:Mu0 mb
 m1:∀b,Mu0 b->Mu b
 m2:∀b,b<E (U wb)->Mu b->Mu0 b
 q:∀r∈ns,rJ (O M.ds) (O trs) F r
section
variable{wb wr w':World} {mb kb:Nat} {M:MK} {trs:VV} {Xd Xi Xf:Nat} {Mu0 Mu:Nat->Prop} {H:Nat} {nm:ByteArray} {ow:Int} {no:OA} {nc:Nat} {ns:List Nm} {F F':Nat} {k a k' a':Int}
theorem NE.below (q:NE wb mb kb M trs Xd Xi Xf Mu0 Mu H nm ow no nc ns F wr) (b:Below (E (U wr)) wr w'):NE wb mb kb M trs Xd Xi Xf Mu0 Mu H nm ow no nc ns F w':=
 ⟨q.s.below b,(b.block _ (gE q.ie).1).trans q.ie,ah q.row (λc _ d=>b.block c d),q.own,q.qY,q.qZ,q.oB,q.lM,q.kx.trans ((KX.al b).mono (λ_ _ h=>h) q.kx.size),q.m0,q.m1,q.m2,q.q⟩
theorem NE.bu (q:NE wb mb kb (M.bu k a) trs Xd Xi Xf Mu0 Mu H nm ow no nc ns F wr) (b:Kp (E (U wr)) mb wr w') (c:cz w' mb ((M.bu k a).bu k' a')):NE wb mb kb (M.bu k' a') trs Xd Xi Xf Mu0 Mu H nm ow no nc ns F w':=
 ⟨q.s.no c b,(b.block _ (gE q.ie).1 (aJ q.ie q.s.mk' dC)).trans q.ie,ah q.row (λd e f=>b.block d f (by
  obtain⟨j,i⟩:=aY q.row e;exact aJ i q.s.mk' dC)),q.own,q.qY,q.qZ,q.oB,q.lM,q.kx.trans ((KX.cI b q.m0).mono (λ_ _ h=>h) q.kx.size),q.m0,q.m1,q.m2,q.q⟩
theorem NE.vn {c:MK} {f:VV} (q:NE wb mb kb M trs Xd Xi Xf Mu0 Mu H nm ow no nc ns F wr) (n:MS w' mb c f [] [] Xd Xi Xf Mu' H) {P:Nat->Prop} (l:KT P wr w') (m:P 102/\P 104) (o:KX Mu (E (U wr)) wr w') (i:∀b,Mu b->Mu' b) (p:∀b,b<E (U wr)->Mu' b->Mu b) (e:c.ms=M.ms/\c.mo=M.mo/\c.mc=M.mc) (s:O M.ds<=O c.ds) (t:O trs<=O f) (hF:F<=F'):NE wb mb kb c f Xd Xi Xf Mu0 Mu' H nm ow no nc ns F' w':=by
 have u:=q.kx.size;exact⟨n,aw l q.ie m.1,ag q.row l m.2,λb v=>i b (q.own b v),i _ q.qY,q.qZ,by rw[e.1,e.2.1,e.2.2];exact q.oB,by rw[e.1];exact q.lM,q.kx.trans (o.mono (λb j d=>q.m2 b j d) u),q.m0,λb d=>i b (q.m1 b d),λb j d=>q.m2 b j (p b oM d),λr x=>(q.q r x).mono s t hF⟩
theorem NE.push (q:NE wb mb kb M trs Xd Xi Xf Mu0 Mu H nm ow no nc ns F wr) (Y:rJ (O M.ds) (O trs) F r) (D:O ns<=20000) (G:TypeId) {ad:Nat} (Z:ad=E (U wr)):
 ∃u w',(Builtin.append_ #[100,100] G #[J no (O ns) nc,J (aS ad) 1 1]).run Tryz.prog (wr.alloc (Ob #[.string r.name,vN r.sort,vN r.n,.bool r.eZ] 104))=.ok u w'/\∃e f Mu',u=J e (O ns+1) f/\w'.heap[kb]? =some (Ob #[.string nm,J no (O ns) nc,vN ow] 102 (0,0))/\KT (λl=>l≠104/\l≠102) wr (w'.setCell ⟨kb,1,I⟩ (J e (O ns+1) f))/\NE wb mb kb M trs Xd Xi Xf Mu0 Mu' H nm ow e f (ns++[r]) F (w'.setCell ⟨kb,1,I⟩ (J e (O ns+1) f)):=by
 have K:=q.kx.size;obtain⟨u,w',aa,i⟩:=fj (W:=wr) Tryz.underlying100 vq Q dC q.row K #[.string r.name,vN r.sort,vN r.n,.bool r.eZ] rfl (by intro au m;simp at m;repeat(first|(subst m;rfl)|(rcases m with m|m;(subst m;rfl)))) (by unfold maxLen;omega) oM G Z;obtain⟨e,f,rfl⟩:=i.shape;have L:=App.kt q.row i;have v:=aw L q.ie dC;have N:=KT.set v 1 (J e (O ns+1) f);have ab:KT (λl=>l≠104/\l≠102) wr (w'.setCell ⟨kb,1,I⟩ (J e (O ns+1) f)):=(L.mono (λl x=>x.1)).trans (N.mono (λl x=>x.2));have ac:E (U wr)<=E (U w'):=lT sQ i.grown.size;have ae:KX (λb=>(Value.slice no (O ns) nc).ownBlock=some b\/b=kb) (E (U wr)) wr w':=⟨i.grown.os,i.grown.tape,i.grown.output,ac,λb c D=>(i.grown.block b (by simp;omega) (λj=>D (.inl j.symm))).trans (Below.heap_alloc _ _ _ c)⟩;have P:KX (λb=>(Value.slice no (O ns) nc).ownBlock=some b\/b=kb) (E (U wr)) wr (w'.setCell ⟨kb,1,I⟩ (J e (O ns+1) f)):=ae.setCell (p:=⟨kb,1,I⟩) (.inr (.inr Q)) _;have af:∀b,((Value.slice no (O ns) nc).ownBlock=some b\/b=kb)->Mu b:=λb c=>by rcases c with c|c;exact q.own b c;rw[c];exact q.qY
 have y:∀b,((Value.slice no (O ns) nc).ownBlock=some b\/b=kb)->E (U wb)<=b:=λb c=>by rcases c with c|c;exact(q.row.lt b c).1;rw[c];exact q.qZ
 have ah:∀b,(Value.slice e (O ns+1) f).ownBlock=some b->b<E (U wr)->Mu b:=λb c o=>by
  rcases i.own with j|j
  ·exact q.own b (by rw[<-j];exact c)
  ·rw[j] at c;simp at c;omega
 have R:∀b,b<E (U wr)->(Mu b\/(Value.slice e (O ns+1) f).ownBlock=some b)->Mu b:=λb o c=>by rcases c with c|c;exact c;exact ah b c o
 have s:∀{S j T V:Nat} {z:Value} {X:List Value},wr.ownsRow S j T z V X->104≠j->102≠j->∀b,z.ownBlock=some b->¬((Value.slice no (O ns) nc).ownBlock=some b\/b=kb):=λ{S j T V z X} ai n t b c d=>by
  obtain⟨av,A⟩:=aY ai c;rcases d with d|d
  ·obtain⟨aj,B⟩:=aY q.row d;exact aJ B A n Q
  ·rw[d] at A;exact aJ q.ie A t Q
 have ak:∀b,(Mu b\/(Value.slice e (O ns+1) f).ownBlock=some b)->b<E (U (w'.setCell ⟨kb,1,I⟩ (J e (O ns+1) f))):=λb c=>by
  rcases c with c|c
  ·have n:=q.s.mlt b c;simp;omega
  ·have n:=(i.row.lt b c).2;simpa using n
 have al:MS (w'.setCell ⟨kb,1,I⟩ (J e (O ns+1) f)) mb M trs [] [] Xd Xi Xf (λb=>Mu b\/(Value.slice e (O ns+1) f).ownBlock=some b) H:=q.s.other P af (λd=>by
  rcases d with d|d
  ·obtain⟨aj,B⟩:=aY q.row d;exact aJ B q.s.mk' dC Q
  ·exact aJ q.ie q.s.mk' dC d.symm) (λb c d=>by have n:=q.oB b c;have t:=y b d;omega) (λao ap b c d=>by have n:=q.lM ao ap b c;have t:=y b d;omega) (s q.s.pi.cd dC dC) (s q.s.tr dC dC) (s q.s.im dC dC) (s q.s.fn dC dC) (λb c=>.inl c) ak R
 have C:O (ns++[r])=O ns+1:=sQ;refine⟨_,w',aa,e,f,λb=>Mu b\/(Value.slice e (O ns+1) f).ownBlock=some b,Q,v,ab,⟨al,?_,?_,λb c=>?_,.inl q.qY,q.qZ,q.oB,q.lM,q.kx.trans (P.mono (λb o d=>by have t:=y b d;omega) K),q.m0,λb c=>.inl (q.m1 b c),λb o c=>q.m2 b o (R b oM c),λaq d=>?_⟩⟩
 ·have:=heap_setCell_same w' kb 1 _ 102 (J e (O ns+1) f) v;rw[C];exact this
 ·rw[C,List.map_append,List.flatten_append];have ar:=ag i.row N dC;simpa[Nm.c] using ar
 ·rw[C] at c;exact .inr c
 ·rcases List.mem_append.1 d with d|d
  ·exact q.q aq d
  ·rw[List.mem_singleton.1 d];exact Y
theorem NE.oQ (q:NE wb mb kb M trs Xd Xi Xf Mu0 Mu H nm ow no nc ns F wr) (x:Int):NE wb mb kb M trs Xd Xi Xf Mu0 Mu H nm x no nc ns F (wr.setCell ⟨kb,2,I⟩ (vN x)):=by
 have e:KX (λb=>b=kb) (E (U wr)) wr (wr.setCell ⟨kb,2,I⟩ (vN x)):=(KX.refl (λb=>b=kb) (E (U wr)) wr).setCell (p:=⟨kb,2,I⟩) (.inr (show kb=kb from rfl)) _;have i:E (U (wr.setCell ⟨kb,2,I⟩ (vN x)))=E (U wr):=sQ;have n:=q.qZ;have j:MS (wr.setCell ⟨kb,2,I⟩ (vN x)) mb M trs [] [] Xd Xi Xf Mu H:=q.s.other e (λb c=>c▸q.qY) (λc=>aJ q.ie q.s.mk' dC c.symm) (λb d c=>oH (q.oB b d)) (λl m b d c=>oH (q.lM l m b d)) (λb d c=>cQ q.s.pi.cd q.ie dC (c▸d)) (λb d c=>cQ q.s.tr q.ie dC (c▸d)) (λb d c=>cQ q.s.im q.ie dC (c▸d)) (λb d c=>cQ q.s.fn q.ie dC (c▸d)) (λ_ h=>h) (λb d=>by rw[i];exact q.s.mlt b d) (λ_ _ h=>h);exact⟨j,heap_setCell_same wr kb 2 _ 102 (vN x) q.ie,ah q.row (λb d f=>e.block b f (λc=>cQ q.row q.ie dC (c▸d))),q.own,q.qY,q.qZ,q.oB,q.lM,q.kx.trans (e.mono (λb f c=>by omega) q.kx.size),q.m0,q.m1,q.m2,q.q⟩
end
end
section
variable{s:ByteArray} {c m n p:Int} {ns:List Nm} {r:Nm} {ks:VV} {kv:Value}
def cP (c:Int):List Value->Nat
 |.int _ k::_=>if k=c then 1 else 0
 |_=>0
def uw (ks:VV) (ns:List Nm):Prop:=∀(c p n m:Int) (s:ByteArray) (kv:Value),(ae c p n m s kv).toList∈ks->c=3\/c=6\/c=8->∃r∈ns,r.name.toList=s.toList/\(c=3->r.sort=0)/\(c=6->r.sort=2)/\(c=8->r.sort=3)
def vz (ns:List Nm):Prop:=ns.Pairwise (λx y=>x.name.toList≠y.name.toList)
theorem vz.eq (h:vz ns) {x b:Nm} (f:x∈ns) (i:b∈ns) (e:x.name.toList=b.name.toList):x=b:=by
 induction ns with
 |nil=>simp at f
 |cons t r o=>
  obtain⟨j,q⟩:=List.pairwise_cons.1 h;rcases List.mem_cons.1 f with l|hx2
  ·rcases List.mem_cons.1 i with d|hy2
   ·rw[l,d]
   ·rw[l] at e;exact absurd e (j b hy2)
  ·rcases List.mem_cons.1 i with d|hy2
   ·rw[d] at e;exact absurd e.symm (j x hx2)
   ·exact o q hx2 hy2
theorem uw.sort (h:uw ks ns) (b:vz ns) (d:(ae c p n m s kv).toList∈ks) (f:c=3\/c=6\/c=8) (i:r∈ns) (e:r.name.toList=s.toList):(c=3->r.sort=0)/\(c=6->r.sort=2)/\(c=8->r.sort=3):=by
 obtain⟨q,j,l,o⟩:=h c p n m s kv d f;obtain rfl:=b.eq i j (e.trans l.symm);exact o
theorem vz.snoc (h:vz ns) (b:∀x∈ns,x.name.toList≠r.name.toList):vz (ns++[r]):=List.pairwise_append.2 ⟨h,List.pairwise_singleton _ _,λx d f e=>by rw[List.mem_singleton.1 e];exact b x d⟩
theorem uw.snoc (h:uw ks ns) (e:r.name.toList=s.toList) (f:(c=3->r.sort=0)/\(c=6->r.sort=2)/\(c=8->r.sort=3)):uw (ks++[(ae c p n m s kv).toList]) (ns++[r]):=by
 intro i j l o q t b u;rcases List.mem_append.1 b with b|b
 ·obtain⟨v,x,y⟩:=h i j l o q t b u;exact⟨v,List.mem_append_left _ x,y⟩
 ·have d:=List.mem_singleton.1 b;simp at d;obtain⟨rfl,rfl,rfl,rfl,rfl,rfl⟩:=d;exact⟨r,sQ,e,f⟩
theorem uw.skip (h:uw ks ns) (f:¬(c=3\/c=6\/c=8)):uw (ks++[(ae c p n m s kv).toList]) ns:=by
 intro i j l o q t b d;rcases List.mem_append.1 b with b|b
 ·exact h i j l o q t b d
 ·have e:=List.mem_singleton.1 b;simp at e;obtain⟨rfl,rfl,rfl,rfl,rfl,rfl⟩:=e;exact absurd d f
def DJ (ms:List Md):Prop:=∀(i j:Nat) (a b:Md),ms[i]? =some a->ms[j]? =some b->i≠j->∀x,(Value.slice a.ao (O a.ns) a.cp).ownBlock=some x->(Value.slice b.ao (O b.ns) b.cp).ownBlock≠some x
structure NO (w:World) (mb:Nat) (M:MK) (trs:VV) (Xd Xi Xf:Nat) (Mu:Nat->Prop) (H:Nat) (kss:List VV) (wr:World) (M':MK) (trs':VV) (Mu':Nat->Prop):Prop where
 s:MS wr mb M' trs' [] [] Xd Xi Xf Mu' H
 kx:KX Mu (E (U w)) w wr
 m1:∀b,Mu b->Mu' b
 m2:∀b,b<E (U w)->Mu' b->Mu b
 ml:O M'.ms=O kss
 dl:O M'.ds=O M.ds+(kss.flatten.map (cP 3)).sum
 tl:O trs'=O trs+(kss.flatten.map (cP 6)).sum
 nz:∀(j:Nat) (d:Dd),O M.ds<=j->M'.ds[j]? =some d->d.ai=0/\d.cF=0
 tv:∃o c,M'.tv=J o (O trs') c
 rest:M'.iv=M.iv/\M'.fv=M.fv/\M'.mn=M.mn/\M'.rv=M.rv/\M'.nv=M.nv
 own:∀m∈M'.ms,m.own=O m.ns
 q:∀m∈M'.ms,∀r∈m.ns,rJ (O M'.ds) (O trs') (kss.flatten.map bB).sum r
 ok:M'.fk=0->∀(j:Nat) (md:Md) (ks:VV),M'.ms[j]? =some md->kss[j]? =some ks->uw ks md.ns/\vz md.ns
 ln:∀(j:Nat) (md:Md) (ks:VV),M'.ms[j]? =some md->kss[j]? =some ks->O md.ns+(ks.map (cP 2)).sum<=O ks
 dj:DJ M'.ms
def uf (w:World) (mb:Nat) (M:MK) (trs:VV) (Xd Xi Xf:Nat) (Mu:Nat->Prop) (H:Nat) (kss:List VV) (e:Ending) (w':World):Prop:=∃(M':MK) (trs':VV) (Mu':Nat->Prop),e=.returned (.tuple #[])/\NO w mb M trs Xd Xi Xf Mu H kss w' M' trs' Mu'
section
variable{w wr w':World} {mb:Nat} {M M':MK} {trs trs':VV} {Xd Xi Xf:Nat} {Mu Mu':Nat->Prop} {H:Nat} {kss:List VV} {k a:Int}
theorem NO.below (q:NO w mb M trs Xd Xi Xf Mu H kss wr M' trs' Mu') (b:Below (E (U wr)) wr w'):NO w mb M trs Xd Xi Xf Mu H kss w' M' trs' Mu':=
 ⟨q.s.below b,q.kx.trans ((KX.al b).mono (λ_ _ h=>h) q.kx.size),q.m1,q.m2,q.ml,q.dl,q.tl,q.nz,q.tv,q.rest,q.own,q.q,q.ok,q.ln,q.dj⟩
theorem NO.bu (q:NO w mb M trs Xd Xi Xf Mu H kss wr M' trs' Mu') (d:Kp (E (U wr)) mb wr w') (e:cz w' mb (M'.bu k a)) (f:M'.fk≠0->k=M'.fk):NO w mb M trs Xd Xi Xf Mu H kss w' (M'.bu k a) trs' Mu':=
 ⟨q.s.no e d,q.kx.trans ((KX.cI d q.s.dG).mono (λi j l=>q.m2 i j l) q.kx.size),q.m1,q.m2,q.ml,q.dl,q.tl,q.nz,q.tv,q.rest,q.own,q.q,λo=>q.ok (by
  by_cases b:M'.fk=0
  ·exact b
  ·have t:=f b;have u:k=0:=o;exact absurd (t.symm.trans u) b),q.ln,q.dj⟩
theorem NO.begin (q:NO w mb M trs Xd Xi Xf Mu H kss wr M' trs' Mu') (f:ByteArray):NE wr mb (E (U wr)) M' trs' Xd Xi Xf Mu' (λb=>Mu' b\/b=E (U wr)) H f 0 I 0 [] (kss.flatten.map bB).sum (wr.alloc (Ob #[.string f,J I 0 0,vN 0] 102)):=by
 obtain⟨j,o⟩:=al1 wr (Ob #[.string f,J I 0 0,vN 0] 102);have v:E (U (wr.alloc (Ob #[.string f,J I 0 0,vN 0] 102)))=E (U wr)+1:=sQ;have i:=q.s.mlt;have l:∀b,b<E (U wr)->(Mu' b\/b=E (U wr))->Mu' b:=λb d e=>by rcases e with e|e;exact e;omega
 exact⟨q.s.grow j (λb d=>.inl d) (λb d=>by rcases d with d|d;(have:=i b d;omega);omega) l,o,World.ownsRow_nil _ _ _ _,λb t=>by simp[Value.ownBlock] at t,.inr Q,lR _,λb d=>i b (q.s.ly b d),λm e b d=>i b (q.s.jL m e b d),KX.al j,q.s.dG,λb d=>.inl d,l,λr u=>by simp at u⟩
end
end
section
variable{s:ByteArray} {c m n p:Int} {x:List Value} {ad:Nat} {kc:VV} {kv:Value}
structure NI (wb:World) (mb kb:Nat) (M0:MK) (trs0:VV) (Xd Xi Xf:Nat) (Mu0 Mu:Nat->Prop) (H:Nat) (nm:ByteArray) (ow:Int) (no:OA) (nc:Nat) (ns:List Nm) (kc kn:VV) (F0:Nat) (wr:World) (M1:MK) (trs1:VV):Prop where
 e:NE wb mb kb M1 trs1 Xd Xi Xf Mu0 Mu H nm ow no nc ns (F0+(kc.map bB).sum) wr
 ms:M1.ms=M0.ms/\M1.mo=M0.mo/\M1.mc=M0.mc
 dl:O M1.ds=O M0.ds+(kc.map (cP 3)).sum
 tl:O trs1=O trs0+(kc.map (cP 6)).sum
 nz:∀(j:Nat) (d:Dd),O M0.ds<=j->M1.ds[j]? =some d->d.ai=0/\d.cF=0
 dk:∀j,j<O M0.ds->M1.ds[j]? =M0.ds[j]?
 tv:∃o c,M1.tv=J o (O trs1) c
 rest:M1.iv=M0.iv/\M1.fv=M0.fv/\M1.mn=M0.mn/\M1.rv=M0.rv/\M1.nv=M0.nv
 hf:M0.fk≠0->M1.fk≠0
 ok:M1.fk=0->uw kn ns/\vz ns
 len:O ns+(kn.map (cP 2)).sum<=O kn
section
variable{wb wr w':World} {mb kb:Nat} {M0 M1:MK} {trs0 trs1:VV} {Xd Xi Xf:Nat} {Mu0 Mu:Nat->Prop} {H:Nat} {nm:ByteArray} {ow:Int} {no:OA} {nc:Nat} {ns:List Nm} {kc kn:VV} {F0:Nat} {k a:Int}
theorem NI.below (q:NI wb mb kb M0 trs0 Xd Xi Xf Mu0 Mu H nm ow no nc ns kc kn F0 wr M1 trs1) (b:Below (E (U wr)) wr w'):NI wb mb kb M0 trs0 Xd Xi Xf Mu0 Mu H nm ow no nc ns kc kn F0 w' M1 trs1:=
 ⟨q.e.below b,q.ms,q.dl,q.tl,q.nz,q.dk,q.tv,q.rest,q.hf,q.ok,q.len⟩
theorem NI.bu (q:NI wb mb kb M0 trs0 Xd Xi Xf Mu0 Mu H nm ow no nc ns kc kn F0 wr M1 trs1) (j:Kp (E (U wr)) mb wr w') (l:cz w' mb (M1.bu k a)) (i:M1.fk≠0->k=M1.fk):NI wb mb kb M0 trs0 Xd Xi Xf Mu0 Mu H nm ow no nc ns kc kn F0 w' (M1.bu k a) trs1:=by
 have o:NE wb mb kb (M1.bu k a) trs1 Xd Xi Xf Mu0 Mu H nm ow no nc ns (F0+(kc.map bB).sum) w':=NE.bu (M:=M1) (k:=M1.fk) (a:=M1.fa) q.e j l;refine⟨o,q.ms,q.dl,q.tl,q.nz,q.dk,q.tv,q.rest,λh d=>?_,λd=>q.ok ?_,q.len⟩
 ·have b:=q.hf h;have e:=i b;have r:k=0:=d;exact b (e.symm.trans r)
 ·by_cases f:M1.fk=0
  ·exact f
  ·have b:=i f;have e:k=0:=d;exact absurd (b.symm.trans e) f
theorem tI (c:Int) (x:List Value):cP c x<=1:=by
 unfold cP;split
 ·split<;>omega
 ·omega
theorem ch {f:List Value->Nat}:((kc++[x]).map f).sum=(kc.map f).sum+f x:=sQ
theorem NI.other (q:NI wb mb kb M0 trs0 Xd Xi Xf Mu0 Mu H nm ow no nc ns kc kn F0 wr M1 trs1) (d:cP 3 x=0) (e:cP 6 x=0):NI wb mb kb M0 trs0 Xd Xi Xf Mu0 Mu H nm ow no nc ns (kc++[x]) kn F0 wr M1 trs1:=by
 have b:=q.e;exact⟨⟨b.s,b.ie,b.row,b.own,b.qY,b.qZ,b.oB,b.lM,b.kx,b.m0,b.m1,b.m2,λf i=>(b.q f i).mono (lR _) (lR _) (by rw[ch];omega)⟩,q.ms,by rw[ch,d];exact q.dl,by rw[ch,e];exact q.tl,q.nz,q.dk,q.tv,q.rest,q.hf,q.ok,q.len⟩
theorem NI.data (q:NI wb mb kb M0 trs0 Xd Xi Xf Mu0 Mu H nm ow no nc ns kc kn F0 wr M1 trs1) (C:cP 3 x=1) (D:cP 6 x=0) {d:Dd} (F:d.ao=I) (G:d.cs=[]) (t:d.ai=0/\d.cF=0) (K:d.cp=0) {cl:Array Value} (L:cl.toList=d.c) (N:cl.size=10) (one:∀u∈cl.toList,u.oneCell'=true) (P:O M1.ds<=199999) (v:TypeId) (R:ad=E (U wr)):
 ∃i w',(Builtin.append_ #[23,23] v #[J M1.df (O M1.ds) M1.eo,J (aS ad) 1 1]).run Tryz.prog (wr.alloc (Ob cl 69))=.ok i w'/\∃b e j,i=J b (O M1.ds+1) e/\cz w' mb M1/\KT (λl=>l≠69) wr w'/\KX Mu (E (U wr)) wr w'/\KT (λl=>l≠69/\l≠66) wr (w'.setCell ⟨mb,1,I⟩ (J b (O M1.ds+1) e))/\KX Mu (E (U wr)) wr (w'.setCell ⟨mb,1,I⟩ (J b (O M1.ds+1) e))/\NI wb mb kb M0 trs0 Xd Xi Xf Mu0 j H nm ow no nc ns (kc++[x]) kn F0 (w'.setCell ⟨mb,1,I⟩ (J b (O M1.ds+1) e)) {M1 with df:=b,eo:=e,ds:=M1.ds++[d]} trs1:=by
 obtain⟨i,w',S,b,e,j,T,V,W,X,y,Y,Z,z,aa⟩:=q.e.s.ym F G t K L N one P v R;have ag:=q.dl;have A:O (M1.ds++[d])=O M1.ds+1:=sQ;have ab:NE wb mb kb {M1 with df:=b,eo:=e,ds:=M1.ds++[d]} trs1 Xd Xi Xf Mu0 j H nm ow no nc ns (F0+((kc++[x]).map bB).sum) (w'.setCell ⟨mb,1,I⟩ (J b (O M1.ds+1) e)):=q.e.vn aa z dC y Y Z ⟨Q,Q,Q⟩ (by show _<=O (M1.ds++[d]);rw[A];omega) (lR _) (by rw[ch];omega);refine⟨i,w',S,b,e,j,T,V,W,X,z,y,⟨ab,q.ms,?_,by rw[ch,D];exact q.tl,λf B r ac=>?_,λf r=>?_,q.tv,q.rest,q.hf,q.ok,q.len⟩⟩
 ·show(M1.ds++[d]).length=_;rw[A,ch,C];omega
 ·have o:(M1.ds++[d])[f]? =some B:=ac;by_cases ae:f<O M1.ds
  ·rw[List.getElem?_append_left ae] at o;exact q.nz f B r o
  ·rw[List.getElem?_append_right oM] at o;have af:=mG o;rw[List.mem_singleton.1 af];exact t
 ·show(M1.ds++[d])[f]? =_;rw[List.getElem?_append_left oM];exact q.dk f r
theorem NI.rZ (q:NI wb mb kb M0 trs0 Xd Xi Xf Mu0 Mu H nm ow no nc ns kc kn F0 wr M1 trs1) (A:cP 3 x=0) (B:cP 6 x=1) {t:OA} {u:Nat} (C:M1.tv=J t (O trs1) u) (e:ByteArray) (mod f:Int) (i:Bool) (D:O trs1<=199999) (v:TypeId) (F:ad=E (U wr)):
 ∃j w',(Builtin.append_ #[24,24] v #[J t (O trs1) u,J (aS ad) 1 1]).run Tryz.prog (wr.alloc (Ob (jr e mod f i I 0 0) 74))=.ok j w'/\∃b d l,j=J b (O trs1+1) d/\cz w' mb M1/\KT (λo=>o≠74) wr w'/\KX Mu (E (U wr)) wr w'/\KT (λo=>o≠74/\o≠66) wr (w'.setCell ⟨mb,2,I⟩ (J b (O trs1+1) d))/\KX Mu (E (U wr)) wr (w'.setCell ⟨mb,2,I⟩ (J b (O trs1+1) d))/\NI wb mb kb M0 trs0 Xd Xi Xf Mu0 l H nm ow no nc ns (kc++[x]) kn F0 (w'.setCell ⟨mb,2,I⟩ (J b (O trs1+1) d)) {M1 with tv:=J b (O trs1+1) d} (trs1++[(jr e mod f i I 0 0).toList]):=by
 obtain⟨j,w',G,b,d,l,K,L,N,P,y,R,S,z,T⟩:=q.e.s.ua C e mod f i D v F;have W:=q.tl;have r:O (trs1++[(jr e mod f i I 0 0).toList])=O trs1+1:=sQ;have V:NE wb mb kb {M1 with tv:=J b (O trs1+1) d} (trs1++[(jr e mod f i I 0 0).toList]) Xd Xi Xf Mu0 l H nm ow no nc ns (F0+((kc++[x]).map bB).sum) (w'.setCell ⟨mb,2,I⟩ (J b (O trs1+1) d)):=q.e.vn T z dC y R S ⟨Q,Q,Q⟩ (lR _) (by rw[r];omega) (by rw[ch];omega);refine⟨j,w',G,b,d,l,K,L,N,P,z,y,⟨V,q.ms,by rw[ch,A];exact q.dl,?_,q.nz,q.dk,⟨b,d,by rw[r]⟩,q.rest,q.hf,q.ok,q.len⟩⟩;rw[r,ch,B];omega
theorem NI.oQ (q:NI wb mb kb M0 trs0 Xd Xi Xf Mu0 Mu H nm ow no nc ns kc kn F0 wr M1 trs1) (x:Int):NI wb mb kb M0 trs0 Xd Xi Xf Mu0 Mu H nm x no nc ns kc kn F0 (wr.setCell ⟨kb,2,I⟩ (vN x)) M1 trs1:=
 ⟨q.e.oQ x,q.ms,q.dl,q.tl,q.nz,q.dk,q.tv,q.rest,q.hf,q.ok,q.len⟩
theorem NI.skip (q:NI wb mb kb M0 trs0 Xd Xi Xf Mu0 Mu H nm ow no nc ns kc kn F0 wr M1 trs1) (d:¬(c=3\/c=6\/c=8)):NI wb mb kb M0 trs0 Xd Xi Xf Mu0 Mu H nm ow no nc ns kc (kn++[(ae c p n m s kv).toList]) F0 wr M1 trs1:=
 ⟨q.e,q.ms,q.dl,q.tl,q.nz,q.dk,q.tv,q.rest,q.hf,λb=>⟨(q.ok b).1.skip d,(q.ok b).2⟩,by have e:=q.len;have f:=tI 2 (ae c p n m s kv).toList;rw[ch,List.length_append,List.length_singleton];omega⟩
theorem NI.push (q:NI wb mb kb M0 trs0 Xd Xi Xf Mu0 Mu H nm ow no nc ns kc kn F0 wr M1 trs1) {r:Nm} (o:rJ (O M1.ds) (O trs1) (F0+(kc.map bB).sum) r) (t:r.name.toList=s.toList) (u:(c=3->r.sort=0)/\(c=6->r.sort=2)/\(c=8->r.sort=3)) (v:M1.fk=0->∀x∈ns,x.name.toList≠r.name.toList) (K:c=3\/c=6\/c=8) (y:O ns<=20000) (j:TypeId) (z:ad=E (U wr)):
 ∃e w',(Builtin.append_ #[100,100] j #[J no (O ns) nc,J (aS ad) 1 1]).run Tryz.prog (wr.alloc (Ob #[.string r.name,vN r.sort,vN r.n,.bool r.eZ] 104))=.ok e w'/\∃b d f,e=J b (O ns+1) d/\w'.heap[kb]? =some (Ob #[.string nm,J no (O ns) nc,vN ow] 102 (0,0))/\KT (λl=>l≠104/\l≠102) wr (w'.setCell ⟨kb,1,I⟩ (J b (O ns+1) d))/\NI wb mb kb M0 trs0 Xd Xi Xf Mu0 f H nm ow b d (ns++[r]) kc (kn++[(ae c p n m s kv).toList]) F0 (w'.setCell ⟨kb,1,I⟩ (J b (O ns+1) d)) M1 trs1:=by
 obtain⟨e,w',A,b,d,f,B,C,D,F⟩:=q.e.push o y j z;exact⟨e,w',A,b,d,f,B,C,D,⟨F,q.ms,q.dl,q.tl,q.nz,q.dk,q.tv,q.rest,q.hf,λi=>⟨(q.ok i).1.snoc t u,(q.ok i).2.snoc (v i)⟩,by have L:=q.len;have G:cP 2 (ae c p n m s kv).toList=0:=(if_neg oM:(if c=2 then 1 else 0)=0);rw[ch,G,List.length_append,List.length_append,List.length_singleton,List.length_singleton];omega⟩⟩
end
section
variable{w wb wr w':World} {mb kb:Nat} {M M0 M1:MK} {trs trs0 trs1:VV} {Xd Xi Xf:Nat} {Mu Mu0 Mu1:Nat->Prop} {H:Nat} {nm:ByteArray} {ow:Int} {no:OA} {nc:Nat} {ns:List Nm} {ks:VV} {kss:List VV}
theorem NO.open (q:NO w mb M trs Xd Xi Xf Mu H kss wr M0 trs0 Mu0) (nm:ByteArray):NI wr mb (E (U wr)) M0 trs0 Xd Xi Xf Mu0 (λb=>Mu0 b\/b=E (U wr)) H nm 0 I 0 [] [] [] (kss.flatten.map bB).sum (wr.alloc (Ob #[.string nm,J I 0 0,vN 0] 102)) M0 trs0:=by
 have d:=q.begin nm;have i:O trs0=O trs0+(([]:VV).map (cP 6)).sum:=sQ;refine⟨sU d,⟨Q,Q,Q⟩,sQ,sQ,?_,λ_ _=>rfl,q.tv,⟨Q,Q,Q,Q,Q⟩,λh=>h,λ_=>⟨λc p n m s kv e=>by simp at e,List.Pairwise.nil⟩,lR _⟩;intro j l o f;have:=(gS f).1;omega
theorem NI.done (d:NO w mb M trs Xd Xi Xf Mu H kss wb M0 trs0 Mu0) (q:NI wb mb kb M0 trs0 Xd Xi Xf Mu0 Mu1 H nm ow no nc ns ks ks (kss.flatten.map bB).sum wr M1 trs1) (aj:O M1.ms<=19999) (hl:O ns<=30000) (Z:TypeId) (ak:ad=E (U wr)):
 ∃C w',(Builtin.append_ #[22,22] Z #[J M1.mo (O M1.ms) M1.mc,J (aS ad) 1 1]).run Tryz.prog (wr.alloc (Ob #[.string nm,J no (O ns) nc,vN (O ns)] 102))=.ok C w'/\∃v y G,C=J v (O M1.ms+1) y/\cz w' mb M1/\w'.heap[kb]? =wr.heap[kb]? /\NO w mb M trs Xd Xi Xf Mu H (kss++[ks]) (w'.setCell ⟨mb,0,I⟩ (J v (O M1.ms+1) y)) {M1 with mo:=v,mc:=y,ms:=M1.ms++[(⟨nm,no,nc,ns,O ns⟩:Md)]} trs1 G:=by
 have al:wr.ownsRow 0 104 4 (J no (O ns) nc) (O ns) (ns.map Nm.c).flatten:=⟨q.e.row.1,q.e.row.2.imp id (λ⟨g,ao,ap,aq,_,ar⟩=>⟨g,ao,ap,aq,zL _,ar⟩)⟩;obtain⟨C,w',au,v,y,G,av,aw,aQ,aR,ax,ay,az,aT,aA,aB⟩:=q.e.s.yj (md:=⟨nm,no,nc,ns,O ns⟩) al q.e.own ⟨lR _,hl⟩ (λaC aD=>(q.e.q aC aD).1) aj Z ak;have aE:=d.kx.size;have aF:=q.e.kx.size;have K:(kss++[ks]).flatten=kss.flatten++ks:=sQ;have aa:=d.dl;have ab:=d.tl;have aU:=q.dl;have aV:=q.tl;have aG:(((kss++[ks]).flatten).map (cP 3)).sum=(kss.flatten.map (cP 3)).sum+(ks.map (cP 3)).sum:=by rw[K,List.map_append,List.sum_append]
 have aH:(((kss++[ks]).flatten).map (cP 6)).sum=(kss.flatten.map (cP 6)).sum+(ks.map (cP 6)).sum:=by rw[K,List.map_append,List.sum_append]
 have aI:(((kss++[ks]).flatten).map bB).sum=(kss.flatten.map bB).sum+(ks.map bB).sum:=by rw[K,List.map_append,List.sum_append]
 have z:=q.rest;have A:=d.rest;have aJ:KX Mu0 (E (U wb)) wb (w'.setCell ⟨mb,0,I⟩ (J v (O M1.ms+1) y)):=q.e.kx.trans (ax.mono (λf hl l=>q.e.m2 f hl l) aF);refine⟨C,w',au,v,y,G,av,aw,aB kb (gE q.e.ie).1 (λL=>by have b:=q.e.oB kb L;have i:=q.e.qZ;omega),⟨aA,d.kx.trans (aJ.mono (λf hl l=>d.m2 f hl l) aE),λf l=>ay f (q.e.m1 f (d.m1 f l)),λf hl l=>d.m2 f hl (q.e.m2 f oM (az f oM l)),?_,?_,?_,?_,q.tv,⟨z.1.trans A.1,z.2.1.trans A.2.1,z.2.2.1.trans A.2.2.1,z.2.2.2.1.trans A.2.2.2.1,z.2.2.2.2.trans A.2.2.2.2⟩,?_,?_,?_,?_,?_⟩⟩
 ·show(M1.ms++[_]).length=O (kss++[ks]);rw[List.length_append,List.length_append,q.ms.1,d.ml];rfl
 ·show O M1.ds=_;rw[aG];omega
 ·rw[aH];omega
 ·intro e N aK aL;have P:M1.ds[e]? =some N:=aL;by_cases j:e<O M0.ds
  ·rw[q.dk e j] at P;exact d.nz e N aK P
  ·exact q.nz e N oM P
 ·intro m R;have S:m∈M1.ms++[(⟨nm,no,nc,ns,O ns⟩:Md)]:=R;rcases List.mem_append.1 S with b|b
  ·rw[q.ms.1] at b;exact d.own m b
  ·rw[List.mem_singleton.1 b]
 ·intro m R T V;have S:m∈M1.ms++[(⟨nm,no,nc,ns,O ns⟩:Md)]:=R;show rJ (O M1.ds) (O trs1) _ T;rw[aI];rcases List.mem_append.1 S with b|b
  ·rw[q.ms.1] at b;exact(d.q m b T V).mono oM oM oM
  ·rw[List.mem_singleton.1 b] at V;exact q.e.q T V
 ·intro L e md W X o;have r:(M1.ms++[(⟨nm,no,nc,ns,O ns⟩:Md)])[e]? =some md:=X;have ac:M1.fk=0:=L
  have aM:M0.fk=0:=by
   by_cases ae:M0.fk=0
   ·exact ae
   ·exact absurd ac (q.hf ae)
  have af:=d.ml;have t:=q.ms.1;by_cases j:e<O M1.ms
  ·rw[List.getElem?_append_left j,t] at r;rw[t] at j;rw[List.getElem?_append_left oM] at o;exact d.ok aM e md W r o
  ·rw[List.getElem?_append_right oM] at r;rw[t] at j;rw[List.getElem?_append_right oM] at o;have b:=List.mem_singleton.1 (mG r);have i:=List.mem_singleton.1 (mG o);rw[b,i];exact q.ok ac
 ·intro e md W X o;have r:(M1.ms++[(⟨nm,no,nc,ns,O ns⟩:Md)])[e]? =some md:=X;have af:=d.ml;have t:=q.ms.1;by_cases j:e<O M1.ms
  ·rw[List.getElem?_append_left j,t] at r;rw[t,af] at j;rw[List.getElem?_append_left j] at o;exact d.ln e md W r o
  ·rw[List.getElem?_append_right oM] at r;rw[List.getElem?_append_right (by rw[t] at j;omega)] at o;have b:=List.mem_singleton.1 (mG r);have i:=List.mem_singleton.1 (mG o);rw[b,i];exact q.len
 ·intro ag e a f aN l aO x D F;have aP:(M1.ms++[(⟨nm,no,nc,ns,O ns⟩:Md)])[ag]? =some a:=aN;have ah:(M1.ms++[(⟨nm,no,nc,ns,O ns⟩:Md)])[e]? =some f:=l;have t:=q.ms.1
  have one:∀{k:Nat} {c:Md},(M1.ms++[(⟨nm,no,nc,ns,O ns⟩:Md)])[k]? =some c->(k<O M1.ms/\M1.ms[k]? =some c)\/(k=O M1.ms/\c=⟨nm,no,nc,ns,O ns⟩):=λ{k c} B=>by
   by_cases ai:k<O M1.ms
   ·rw[List.getElem?_append_left ai] at B;exact .inl ⟨ai,B⟩
   ·rw[List.getElem?_append_right oM] at B;have b:=(gS B).1;simp at b;exact .inr ⟨oM,List.mem_singleton.1 (mG B)⟩
  rcases one aP with⟨b,i⟩|⟨b,i⟩
  ·rcases one ah with⟨Y,u⟩|⟨Y,u⟩
   ·rw[t] at i u;exact d.dj ag e a f i u aO x D F
   ·rw[u] at F;have aa:=q.e.lM a (mG i) x D;have ab:=(q.e.row.lt x F).1;omega
  ·rcases one ah with⟨Y,u⟩|⟨Y,u⟩
   ·rw[i] at D;have aa:=q.e.lM f (mG u) x F;have ab:=(q.e.row.lt x D).1;omega
   ·omega
end
end
section
theorem getElem?_set_one {i:Nat} {c:Type} {l:List c} {j:Nat} {x a:c} (h:(l.set i x)[j]? =some a):(j=i/\a=x)\/(j≠i/\l[j]? =some a):=by
 by_cases b:i=j
 ·subst b;rw[List.getElem?_set_self'] at h;by_cases d:i<O l
  ·rw[gG d] at h;exact .inl ⟨Q,sU h.symm⟩
  ·rw[List.getElem?_eq_none oM] at h;simp at h
 ·rw[List.getElem?_set_ne b] at h;exact .inr ⟨λe=>b e.symm,h⟩
section
variable{w w':World} {mb:Nat} {M:MK} {trs:VV} {Xd Xi Xf:Nat} {Mu Mu':Nat->Prop} {H H':Nat}
theorem MS.xq (h:MS w mb M trs [] [] Xd Xi Xf Mu H) (ak:DJ M.ms) {i:Nat} {md:Md} (X:M.ms[i]? =some md) {q:Nat} (aF:M.mo=some ⟨q,0,I⟩) {r:Nm} (aG:NQ (O M.ds) (O trs) r) (N:O md.ns<=29999) (al:TypeId) {ad:Nat} (aH:ad=E (U w)):
 ∃Y w',(Builtin.append_ #[100,100] al #[J md.ao (O md.ns) md.cp,J (aS ad) 1 1]).run Tryz.prog (w.alloc (Ob #[.string r.name,vN r.sort,vN r.n,.bool r.eZ] 104))=.ok Y w'/\∃d e Mu',Y=J d (O md.ns+1) e/\cz w' mb M/\(∃aI,w'.heap[q]? =some (Ob aI 102 (0,0)))/\KT (λt=>t≠104) w w'/\KX Mu (E (U w)) w (w'.setCell ⟨q,i*3+1,I⟩ (J d (O md.ns+1) e))/\(∀a,Mu a->Mu' a)/\(∀a,a<E (U w)->Mu' a->Mu a)/\KT (λt=>t≠104/\t≠102) w (w'.setCell ⟨q,i*3+1,I⟩ (J d (O md.ns+1) e))/\MS (w'.setCell ⟨q,i*3+1,I⟩ (J d (O md.ns+1) e)) mb {M with ms:=M.ms.set i {md with ao:=d,cp:=e,ns:=md.ns++[r]}} trs [] [] Xd Xi Xf Mu' H/\DJ (M.ms.set i {md with ao:=d,cp:=e,ns:=md.ns++[r]})/\(∀a,a<E (U w)->(Value.slice md.ao (O md.ns) md.cp).ownBlock≠some a->w'.heap[a]? =w.heap[a]?):=by
 have m:=h.pi;have u:=mG X;obtain⟨ao,a4,a5⟩:=m.cE.names md u;obtain⟨Y,w',aK,n⟩:=fj (W:=w) Tryz.underlying100 vq Q dC ao (zL _) #[.string r.name,vN r.sort,vN r.n,.bool r.eZ] rfl (by intro a6 z;simp at z;repeat(first|(subst z;rfl)|(rcases z with z|z;(subst z;rfl)))) (by unfold maxLen;omega) oM al aH;obtain⟨d,e,rfl⟩:=n.shape;have D:=App.kt ao n;have ap:=aw D h.mk' dC;have Z:(Value.slice M.mo (O M.ms) M.mc).ownBlock=some q:=by rw[aF];rfl
 obtain⟨aL,ar⟩:=aY m.cE.row Z;have au:=aw D ar dC;have P:=KT.set au (i*3+1) (J d (O md.ns+1) e);obtain⟨W,A⟩:∃W,W=w'.setCell ⟨q,i*3+1,I⟩ (J d (O md.ns+1) e):=⟨_,Q⟩;rw[<-A] at P;have F:KT (λt=>t≠104/\t≠102) w W:=(D.mono (λt aa=>aa.1)).trans (P.mono (λt aa=>aa.2));have aM:E (U w)<=E (U w'):=lT sQ n.grown.size;have a7:E (U W)=E (U w'):=by rw[A];simp
 have av:E (U w)<=E (U W):=oM;have ab:∀a,(Value.slice md.ao (O md.ns) md.cp).ownBlock=some a->Mu a:=h.jL md u;have aN:KX Mu (E (U w)) w w':=⟨n.grown.os,n.grown.tape,n.grown.output,aM,λa b N=>(n.grown.block a (by simp;omega) (λj=>N (ab a j.symm))).trans (Below.heap_alloc _ _ _ b)⟩;have ax:KX Mu (E (U w)) w W:=by rw[A];exact aN.setCell (p:=⟨q,i*3+1,I⟩) (.inr (h.ly q Z)) _
 have ay:aq (λa=>¬Mu a/\a<E (U w)) w W:=λa b y=>ax.block a y b.1
 have ac:∀a,(Value.slice d (O md.ns+1) e).ownBlock=some a->a<E (U w)->(Value.slice md.ao (O md.ns) md.cp).ownBlock=some a:=λa b y=>by
  rcases n.own with j|j
  ·rw[<-j];exact b
  ·rw[j] at b;simp at b;omega
 have az:∀a,¬Mu a->a<E (U w)->(¬Mu a/\a<E (U w)):=λa k f=>⟨k,f⟩
 have aA:∀a,(¬Mu a/\a<E (U w))->a<E (U W)->¬(Mu a\/(Value.slice d (O md.ns+1) e).ownBlock=some a):=λa b _ u=>by
  rcases u with u|u
  ·exact b.1 u
  ·exact b.1 (ab a (ac a u b.2))
 have aO:∀a,(Mu a\/(Value.slice d (O md.ns+1) e).ownBlock=some a)->a<E (U W):=λa b=>by
  rcases b with b|b
  ·have:=h.mlt a b;omega
  ·have:=(n.row.lt a b).2;omega
 have aP:∀a,(Value.slice md.ao (O md.ns) md.cp).ownBlock≠some a->a≠q->a<E (U w)->W.heap[a]? =w.heap[a]? :=λa k f B=>by
  rw[A];exact(Below.heap_setCell _ ⟨q,i*3+1,I⟩ _ _ f).trans ((n.grown.block a (by simp;omega) (λj=>k j.symm)).trans (Below.heap_alloc _ _ _ B))
 have G:O (md.ns++[r])=O md.ns+1:=sQ;have ae:O (M.ms.set i {md with ao:=d,cp:=e,ns:=md.ns++[r]})=O M.ms:=sQ;have aB:∀(l:Nat) (c:Md),M.ms[l]? =some c->l≠i->∀a,(Value.slice c.ao (O c.ns) c.cp).ownBlock=some a->(Value.slice md.ao (O md.ns) md.cp).ownBlock≠some a:=λl c s af a b R=>ak l i c md s X af a b R
 have aQ:W.ownsRow 0 104 4 (J d (O (md.ns++[r])) e) (O (md.ns++[r])) ((md.ns++[r]).map Nm.c).flatten:=by
  rw[G,List.map_append,List.flatten_append];have aR:=ag n.row P dC;simpa[Nm.c] using aR
 obtain⟨aT,aU,aV,aW⟩:=h.jR;refine⟨_,w',aK,d,e,λa=>Mu a\/(Value.slice d (O md.ns+1) e).ownBlock=some a,Q,ap,⟨aL,au⟩,D,?_⟩;rw[<-A];refine⟨ax,λa b=>.inl b,λa y b=>by rcases b with b|b;exact b;exact ab a (ac a b y),F,⟨⟨?_,⟨?_,?_,?_⟩,?_,ag m.cd F dC,m.bj,m.lg⟩,ag h.tr F dC,ag h.im F dC,ag h.fn F dC,.inl h.dG,aO,?_,?_,λa j=>.inl (h.js a j),λa j=>.inl (h.jW a j),λa j=>.inl (h.lK a j),λa j=>.inl (h.lV a j),⟨aT,aU,aV,λi aX S aZ v=>(((aW i aX S aZ v).weaken az).frame ay av).weaken aA⟩,λx ai=>(((h.jo x ai).weaken az).frame ay av).weaken aA,Sm.nil.mono (zL _),Sm.nil.mono (zL _)⟩,?_,λa b N=>(n.grown.block a (by simp;omega) (λj=>N j.symm)).trans (Below.heap_alloc _ _ _ b)⟩
 ·have k:=aw P ap dC;show W.heap[mb]? =_;rw[k];simp
 ·show W.ownsRow 0 102 3 (J M.mo (O (M.ms.set i _)) M.mc) (O (M.ms.set i _)) ((M.ms.set i _).map Md.c).flatten;rw[ae];have k:=cW (ag m.cE.row D dC) Z (i*3+1) (J d (O md.ns+1) e);rw[gp (size:=3) (us:=M.ms.map Md.c) (λx ai=>by obtain⟨a8,_,rfl⟩:=List.mem_map.1 ai;rfl) (i:=i) (x:=md.c) (by rw[List.getElem?_map,X];rfl) (o:=1) dC,<-A] at k;rw[List.map_set]
  have a0:Md.c {md with ao:=d,cp:=e,ns:=md.ns++[r]}=md.c.set 1 (J d (O md.ns+1) e):=by
   simp[Md.c]
  rw[a0];exact k
 ·show(M.ms.set i _).length<=20000;rw[ae];exact m.cE.bj
 ·intro c K;obtain⟨l,s⟩:=List.mem_iff_getElem?.1 K;rcases getElem?_set_one s with⟨k,f⟩|⟨k,f⟩
  ·rw[f];refine⟨aQ,?_,?_⟩
   ·show md.own<=O (md.ns++[r]);rw[G];omega
   ·show(md.ns++[r]).length<=30000;rw[G];omega
  ·have aj:=mG f;refine⟨ah (m.cE.names c aj).1 (λa b y=>aP a (aB l c f k a b) (λj=>?_) y),(m.cE.names c aj).2⟩;obtain⟨a9,a1⟩:=aY (m.cE.names c aj).1 b;exact aJ a1 ar dC j
 ·intro c K S v;obtain⟨l,s⟩:=List.mem_iff_getElem?.1 K;rcases getElem?_set_one s with⟨k,f⟩|⟨k,f⟩
  ·rw[f] at v;rcases List.mem_append.1 v with v|v
   ·exact m.q md u S v
   ·rw[List.mem_singleton.1 v];exact aG
  ·exact m.q c (mG f) S v
 ·intro a b;have L:(Value.slice M.mo (O (M.ms.set i {md with ao:=d,cp:=e,ns:=md.ns++[r]})) M.mc).ownBlock=some a:=b;rw[ae] at L;exact .inl (h.ly a L)
 ·intro c K a b;obtain⟨l,s⟩:=List.mem_iff_getElem?.1 K;rcases getElem?_set_one s with⟨k,f⟩|⟨k,f⟩
  ·rw[f] at b;have L:(Value.slice d (O (md.ns++[r])) e).ownBlock=some a:=b;rw[G] at L;exact .inr L
  ·exact .inl (h.jL c (mG f) a b)
 ·have aC:∀(l:Nat) (c:Md),M.ms[l]? =some c->l≠i->∀a,(Value.slice c.ao (O c.ns) c.cp).ownBlock=some a->(Value.slice d (O (md.ns++[r])) e).ownBlock≠some a:=λl c s af a b R=>by
   rw[G] at R;have y:=h.mlt a (h.jL c (mG s) a b);exact aB l c s af a b (ac a R y)
  intro l aD aE a a2 b a3 x T V;rcases getElem?_set_one a2 with⟨k,f⟩|⟨k,f⟩
  ·rcases getElem?_set_one b with⟨B,C⟩|⟨B,C⟩
   ·omega
   ·rw[f] at T;exact aC aD a C B x V T
  ·rcases getElem?_set_one b with⟨B,C⟩|⟨B,C⟩
   ·rw[C] at V;exact aC l aE f k x T V
   ·exact ak l aD aE a f C a3 x T V
end
end
section
variable{x:List Value} {B0 db h i:Nat} {ks:VV} {w:World}
def ql (B0:Nat) (w:World) (o1:OA) (j:Nat) (x:List Value):Prop:=∃(g2:Nat) (c2 p2 n2 m2:Int) (s2:ByteArray) (o2:OA) (l2 d2:Nat),o1=some ⟨g2,0,I⟩/\g2<B0/\x=(ae c2 p2 n2 m2 s2 (J o2 l2 d2)).toList/\(c2=2->NT s2/\∃i,rF s2 i)/\(∀W:World,aq (λb=>b<B0) w W->∀o,o<11->W.cell? ⟨g2,j*11+o,I⟩=x[o]?)/\(c2=3->∃(gd:Nat) (p3 n3 m3:Int) (s3:ByteArray) (o3:OA) (gl c3:Nat),o2=some ⟨gd,0,I⟩/\gd<B0/\1<=l2/\gl<=6100/\(∀W:World,aq (λb=>b<B0) w W->∀o,o<11->W.cell? ⟨gd,o,I⟩=(ae 9 p3 n3 m3 s3 (J o3 gl c3)).toList[o]?)/\∀q,q<gl->∃(g3:Nat) (k4 p4 n4 m4:Int) (s4:ByteArray) (o4:OA) (l4 c4:Nat),o3=some ⟨g3,0,I⟩/\g3<B0/\∀W:World,aq (λb=>b<B0) w W->∀o,o<11->W.cell? ⟨g3,q*11+o,I⟩=(ae k4 p4 n4 m4 s4 (J o4 l4 c4)).toList[o]?)
def yq (B0:Nat) (w:World) (ko:OA) (i:Nat) (ks:VV):Prop:=∃(g:Nat) (p1 n1 m1:Int) (s1:ByteArray) (o1:OA) (c1:Nat),ko=some ⟨g,0,I⟩/\g<B0/\O ks<=20000/\(∀W:World,aq (λb=>b<B0) w W->∀j,j<11->W.cell? ⟨g,i*11+j,I⟩=(ae 1 p1 n1 m1 s1 (J o1 (O ks) c1)).toList[j]?)/\∀(j:Nat) (x:List Value),ks[j]? =some x->ql B0 w o1 j x
theorem eQ {g n c:Nat} (h:cU B0 w (J (aS g) n c) ks) (l:B0<=E (U w)) (j:ks[i]? =some x):g<B0/\∀d:World,aq (λm=>m<B0) w d->∀b,b<11->d.cell? ⟨g,i*11+b,I⟩=x[b]? :=by
 obtain⟨o,p,e,q,-⟩:=h.nth j;obtain⟨rfl,rfl⟩:g=o/\p=0:=by simp at e;exact⟨e.1,e.2.symm⟩
 refine⟨q,λd r b s=>?_⟩;obtain⟨t,u,f,-,v⟩:=(h.frame r l).nth j;obtain⟨rfl,rfl⟩:g=t/\u=0:=by simp at f;exact⟨f.1,f.2.symm⟩
 have:=v b s;rw[Nat.zero_add] at this;exact this
theorem wY (d:B0<=E (U w)) {c:OA} {c1:Nat} (N:cU B0 w (J c (O ks) c1) ks) (P:∀i,i<O ks->∃g,c=some ⟨g,0,I⟩) (R:∀x∈ks,isNode (λb=>b<B0) True (h+3) w x) {j:Nat} (e:ks[j]? =some x):ql B0 w c j x:=by
 have q:=R x (mG e);obtain⟨S,T,V,W,X,r,aR,Y,rfl,Z⟩:=isNode.cells q;obtain⟨s,aa⟩:=P j (gS e).1;obtain rfl:c=some ⟨s,0,I⟩:=aa;obtain⟨ab,ac⟩:=eQ N d e;obtain⟨f,rfl,ad,ae,t,-,-,af,-,-⟩:=q.kids;refine⟨s,S,T,V,W,X,r,O f,Y,Q,ab,Q,λm=>?_,ac,λm=>?_⟩
 ·obtain⟨u,ag⟩:=t.use m;exact⟨u.nt Z,u.two ag⟩
 ·obtain⟨aS,ah,aT⟩:=t.data m;obtain⟨v,aU,y,ai,aV⟩:=List.map_eq_cons_iff.1 ah;have aj:1<=O f:=by rw[y];simp
  have z:f[0]? =some v:=by rw[y];rfl
  have A:=ae v (mG z);obtain⟨ak,al,B,ao,ap,C,aq,ar,rfl,-⟩:=isNode.cells A;obtain rfl:ak=9:=dt (n:=B) (l:=aq) ai dC;obtain⟨o,rfl,au,av,aw,-,-,ax,-,-⟩:=A.kids;have ay:O o<=6100:=by have:=(aw.cF Q).1;simpa using this
  obtain⟨D,az⟩:=af 0 oM;obtain rfl:r=some ⟨D,0,I⟩:=az;obtain⟨aA,aB⟩:=eQ ad d z;refine⟨D,al,B,ao,ap,C,O o,ar,Q,aA,aj,ay,λaC aD aE aF=>?_,λF G=>?_⟩
  ·have:=aB aC aD aE aF;simpa using this
  ·obtain⟨p,K⟩:∃p,o[F]? =some p:=⟨_,gG G⟩;obtain⟨aG,aH,aI,aJ,aK,aL,aM,aN,rfl,-⟩:=isNode.cells (av p (mG K));obtain⟨L,aO⟩:=ax F G;obtain rfl:C=some ⟨L,0,I⟩:=aO;obtain⟨aP,aQ⟩:=eQ au d K;exact⟨L,aG,aH,aI,aJ,aK,aL,aM,aN,Q,aP,aQ⟩
theorem umod (l:B0<=E (U w)) {ko:OA} {kc:Nat} {mks:VV} (o:cU B0 w (J ko (O mks) kc) mks) (p:∀i,i<O mks->∃g,ko=some ⟨g,0,I⟩) {kss:List VV} (q:∀(i:Nat) (ks:VV),kss[i]? =some ks->∃d e f j c c1,mks[i]? =some (ae 1 d e f j (J c (O ks) c1)).toList/\cU B0 w (J c (O ks) c1) ks/\(∀i,i<O ks->∃g,c=some ⟨g,0,I⟩)/\∀x∈ks,isNode (λb=>b<B0) True (h+3) w x) (r:kss[i]? =some ks):yq B0 w ko i ks:=by
 obtain⟨d,e,f,j,c,c1,m,n,s,t⟩:=q i ks r;obtain⟨g,u⟩:=p i (gS m).1;obtain rfl:ko=some ⟨g,0,I⟩:=u;obtain⟨v,y⟩:=eQ o l m;exact⟨g,d,e,f,j,c,c1,Q,v,n.len.2,y,λA x z=>wY l n s t z⟩
structure US (w:World) (mb:Nat) (M:MK) (trs:VV) (Xd Xi Xf:Nat) (Mu:Nat->Prop) (H:Nat) (wr:World) (M':MK) (Mu':Nat->Prop):Prop where
 s:MS wr mb M' trs [] [] Xd Xi Xf Mu' H
 kx:KX Mu (E (U w)) w wr
 m1:∀b,Mu b->Mu' b
 m2:∀b,b<E (U w)->Mu' b->Mu b
 ml:O M'.ms=O M.ms
 own:∀(j:Nat) (md':Md),M'.ms[j]? =some md'->∃md,M.ms[j]? =some md/\md'.own=md.own/\md'.ns.take md'.own=md.ns.take md.own
 ds:O M'.ds=O M.ds
 rest:M'.tv=M.tv/\M'.iv=M.iv/\M'.fv=M.fv/\M'.mn=M.mn/\M'.rv=M.rv/\M'.nv=M.nv
 hf:M.fk≠0->M'.fk≠0
 dj:DJ M'.ms
def uc (w:World) (mb:Nat) (M:MK) (trs:VV) (Xd Xi Xf:Nat) (Mu:Nat->Prop) (H:Nat) (e:Ending) (w':World):Prop:=∃(M':MK) (Mu':Nat->Prop),e=.returned (.tuple #[])/\US w mb M trs Xd Xi Xf Mu H w' M' Mu'
section
variable{w wr w':World} {mb:Nat} {M M':MK} {trs:VV} {Xd Xi Xf:Nat} {Mu Mu':Nat->Prop} {H:Nat} {k a:Int}
theorem US.below (q:US w mb M trs Xd Xi Xf Mu H wr M' Mu') (b:Below (E (U wr)) wr w'):US w mb M trs Xd Xi Xf Mu H w' M' Mu':=
 ⟨q.s.below b,q.kx.trans ((KX.al b).mono (λ_ _ h=>h) q.kx.size),q.m1,q.m2,q.ml,q.own,q.ds,q.rest,q.hf,q.dj⟩
theorem US.bu (q:US w mb M trs Xd Xi Xf Mu H wr M' Mu') (b:Kp (E (U wr)) mb wr w') (d:cz w' mb (M'.bu k a)) (e:M'.fk≠0->k=M'.fk):US w mb M trs Xd Xi Xf Mu H w' (M'.bu k a) Mu':=
 ⟨q.s.no d b,q.kx.trans ((KX.cI b q.s.dG).mono (λf j l=>q.m2 f j l) q.kx.size),q.m1,q.m2,q.ml,q.own,q.ds,q.rest,λh=>by
  have c:=q.hf h;show k≠0;rw[e c];exact c,q.dj⟩
theorem US.name (q:US w mb M trs Xd Xi Xf Mu H wr M' Mu') {md:Md} (l:M'.ms[i]? =some md) {m:Nat} (v:M'.mo=some ⟨m,0,I⟩) {r:Nm} (y:NQ (O M'.ds) (O trs) r) (z:O md.ns<=29999) (p:TypeId) {ad:Nat} (A:ad=E (U wr)):
 ∃f w',(Builtin.append_ #[100,100] p #[J md.ao (O md.ns) md.cp,J (aS ad) 1 1]).run Tryz.prog (wr.alloc (Ob #[.string r.name,vN r.sort,vN r.n,.bool r.eZ] 104))=.ok f w'/\∃c d n,f=J c (O md.ns+1) d/\cz w' mb M'/\(∃B,w'.heap[m]? =some (Ob B 102 (0,0)))/\KT (λC=>C≠104) wr w'/\US w mb M trs Xd Xi Xf Mu H (w'.setCell ⟨m,i*3+1,I⟩ (J c (O md.ns+1) d)) {M' with ms:=M'.ms.set i {md with ao:=c,cp:=d,ns:=md.ns++[r]}} n/\(∀b,b<E (U wr)->(Value.slice md.ao (O md.ns) md.cp).ownBlock≠some b->w'.heap[b]? =wr.heap[b]?):=by
 obtain⟨f,w',D,c,d,n,F,G,K,L,N,P,R,-,S,T,V⟩:=q.s.xq q.dj l v y z p A;have W:=q.kx.size;refine⟨f,w',D,c,d,n,F,G,K,L,⟨S,q.kx.trans (N.mono (λb o e=>q.m2 b o e) W),λb e=>P b (q.m1 b e),λb o e=>q.m2 b o (R b oM e),?_,λs t X=>?_,q.ds,q.rest,q.hf,T⟩,V⟩
 ·show(M'.ms.set i _).length=_;rw[List.length_set];exact q.ml
 ·have Y:(M'.ms.set i {md with ao:=c,cp:=d,ns:=md.ns++[r]})[s]? =some t:=X;rcases getElem?_set_one Y with⟨u,j⟩|⟨u,j⟩
  ·obtain⟨Z,aa,ab,ac⟩:=q.own i md l;refine⟨Z,by rw[u];exact aa,by rw[j];exact ab,?_⟩;rw[j,<-ac];show(md.ns++[r]).take md.own=_;exact List.take_append_of_le_length (q.s.pi.cE.names md (mG l)).2.1
  ·exact q.own s t j
theorem US.fresh (q:US w mb M trs Xd Xi Xf Mu H wr M' Mu') (c:Below (E (U wr)) wr w') (e:E (U wr)<=db) (f:db<E (U w')):US w mb M trs Xd Xi Xf Mu H w' M' (λb=>Mu' b\/b=db):=by
 have j:=c.size;have l:=q.kx.size;exact⟨q.s.grow c (λb h=>.inl h) (λb h=>by rcases h with h|h;(have:=q.s.mlt b h;omega);omega) (λb d h=>by rcases h with h|h;exact h;omega),q.kx.trans ((KX.al c).mono (λ_ _ h=>h) q.kx.size),λb h=>.inl (q.m1 b h),λb d h=>by rcases h with h|h;exact q.m2 b d h;omega,q.ml,q.own,q.ds,q.rest,q.hf,q.dj⟩
theorem US.yP (q:US w mb M trs Xd Xi Xf Mu H wr M' Mu') {c:Array Value} (f:wr.heap[db]? =some (Ob c 104 (0,0))) (j:Mu' db) (hw:E (U w)<=db) (l:∀m∈M'.ms,∀b,(Value.slice m.ao (O m.ns) m.cp).ownBlock=some b->b≠db) (o:Nat) (u:Value):US w mb M trs Xd Xi Xf Mu H (wr.setCell ⟨db,o,I⟩ u) M' Mu':=by
 have n:KX (λb=>b=db) (E (U wr)) wr (wr.setCell ⟨db,o,I⟩ u):=(KX.refl (λb=>b=db) (E (U wr)) wr).setCell (p:=⟨db,o,I⟩) (.inr (show db=db from rfl)) _;have r:E (U (wr.setCell ⟨db,o,I⟩ u))=E (U wr):=sQ;exact⟨q.s.other n (λb d=>d▸j) (λd=>aJ f q.s.mk' dC d.symm) (λb e d=>cQ q.s.pi.cE.row f dC (d▸e)) (λm s b e d=>l m s b e d) (λb e d=>cQ q.s.pi.cd f dC (d▸e)) (λb e d=>cQ q.s.tr f dC (d▸e)) (λb e d=>cQ q.s.im f dC (d▸e)) (λb e d=>cQ q.s.fn f dC (d▸e)) (λ_ h=>h) (λb e=>by rw[r];exact q.s.mlt b e) (λ_ _ h=>h),q.kx.setCell (p:=⟨db,o,I⟩) (.inl hw) _,q.m1,q.m2,q.ml,q.own,q.ds,q.rest,q.hf,q.dj⟩
end
end
section
variable{x:Int} {g n:Nat}
section
variable{w w':World} {mb:Nat} {M:MK} {trs au fns:VV} {Xd Xi Xf:Nat} {Mu Mu':Nat->Prop} {H H':Nat}
theorem MS.xu (h:MS w mb M trs au fns Xd Xi Xf Mu H) {d:Dd} (s:M.ds[n]? =some d) (G:M.df=some ⟨g,0,I⟩) (a:0<=x/\x<=6100):MS (w.setCell ⟨g,n*10+6,I⟩ (vN x)) mb (M.put n {d with ai:=x}) trs au fns Xd Xi Xf Mu H/\KX Mu (E (U w)) w (w.setCell ⟨g,n*10+6,I⟩ (vN x))/\KT (λv=>v≠69) w (w.setCell ⟨g,n*10+6,I⟩ (vN x)):=by
 have y:(Value.slice M.df (O M.ds) M.eo).ownBlock=some g:=by rw[G];rfl
 obtain⟨ab,K⟩:=aY h.pi.cd y;have j:KT (λv=>v≠69) w (w.setCell ⟨g,n*10+6,I⟩ (vN x)):=KT.set K _ _;have z:KX Mu (E (U w)) w (w.setCell ⟨g,n*10+6,I⟩ (vN x)):=(KX.refl _ _ _).setCell (p:=⟨g,n*10+6,I⟩) (.inr (h.js g y)) _;have q:aq (λf=>¬Mu f) w (w.setCell ⟨g,n*10+6,I⟩ (vN x)):=λf k L=>z.block f L k;have l:=z.size;have b:O (M.put n {d with ai:=x}).ds=O M.ds:=List.length_set;have m:=h.pi;have N:∀c∈(M.put n {d with ai:=x}).ds,c∈M.ds\/c={d with ai:=x}:=λc e=>List.mem_or_eq_of_mem_set e;have P:=mG s;have R:=(gS s).1;obtain⟨S,T,V,B⟩:=h.jR;have C:=cW m.cd y (n*10+6) (vN x)
 have W:(M.ds.map Dd.c).flatten.set (n*10+6) (vN x)=((M.put n {d with ai:=x}).ds.map Dd.c).flatten:=by
  have:=gp (size:=10) (us:=M.ds.map Dd.c) (λx a=>by obtain⟨r,_,rfl⟩:=List.mem_map.1 a;rfl) (i:=n) (x:=d.c) (by rw[List.getElem?_map,s];rfl) (o:=6) dC (vN x);rw[this];show _=((M.ds.set n {d with ai:=x}).map Dd.c).flatten;rw[List.map_set];rfl
 rw[W] at C;refine⟨⟨⟨?_,m.cE.kt j dC dC,?_,?_,?_,?_⟩,ag h.tr j dC,ag h.im j dC,ag h.fn j dC,h.dG,λf k=>Nat.lt_of_lt_of_le (h.mlt f k) l,h.ly,h.jL,?_,h.jW,h.lK,h.lV,⟨S,by rw[b];exact T,V,?_⟩,?_,?_,?_⟩,z,j⟩
 ·have:=aw j h.mk' dC;unfold cz at*;rw[this];simp
 ·intro X Y r t;rw[b];exact m.q X Y r t
 ·rw[b];exact C
 ·rw[b];exact m.bj
 ·intro c e;rcases N c e with A|A
  ·exact m.lg c A
  ·have D:=m.lg d P;rw[A];exact⟨a.1,a.2,D.2.2.1,D.2.2.2⟩
 ·intro f k;rw[b] at k;exact h.js f k
 ·intro i c r e t;rw[b];by_cases F:i=n
  ·subst F;rw[List.getElem?_set_self R] at e;obtain rfl:=Option.some.inj e;have u:=(B i d r s t).frame q l;exact⟨u.row,u.parts,u.len,u.sz⟩
  ·rw[List.getElem?_set_ne (λZ=>F Z.symm)] at e;exact(B i c r e t).frame q l
 ·intro x a;rw[b];exact(h.jo x a).frame q l
 ·rw[b];exact h.lN.imp (λaa x a=>a.frame q l)
 ·rw[b];exact h.lD.imp (λaa x a=>a.frame q l)
theorem MS.xw (h:MS w mb M trs au fns Xd Xi Xf Mu H) {d:Dd} (s:M.ds[n]? =some d) (G:M.df=some ⟨g,0,I⟩) (a:0<=x/\x<=6100):MS (w.setCell ⟨g,n*10+7,I⟩ (vN x)) mb (M.put n {d with cF:=x}) trs au fns Xd Xi Xf Mu H/\KX Mu (E (U w)) w (w.setCell ⟨g,n*10+7,I⟩ (vN x))/\KT (λv=>v≠69) w (w.setCell ⟨g,n*10+7,I⟩ (vN x)):=by
 have y:(Value.slice M.df (O M.ds) M.eo).ownBlock=some g:=by rw[G];rfl
 obtain⟨ab,K⟩:=aY h.pi.cd y;have j:KT (λv=>v≠69) w (w.setCell ⟨g,n*10+7,I⟩ (vN x)):=KT.set K _ _;have z:KX Mu (E (U w)) w (w.setCell ⟨g,n*10+7,I⟩ (vN x)):=(KX.refl _ _ _).setCell (p:=⟨g,n*10+7,I⟩) (.inr (h.js g y)) _;have q:aq (λf=>¬Mu f) w (w.setCell ⟨g,n*10+7,I⟩ (vN x)):=λf k L=>z.block f L k;have l:=z.size;have b:O (M.put n {d with cF:=x}).ds=O M.ds:=List.length_set;have m:=h.pi;have N:∀c∈(M.put n {d with cF:=x}).ds,c∈M.ds\/c={d with cF:=x}:=λc e=>List.mem_or_eq_of_mem_set e;have P:=mG s;have R:=(gS s).1;obtain⟨S,T,V,B⟩:=h.jR;have C:=cW m.cd y (n*10+7) (vN x)
 have W:(M.ds.map Dd.c).flatten.set (n*10+7) (vN x)=((M.put n {d with cF:=x}).ds.map Dd.c).flatten:=by
  have:=gp (size:=10) (us:=M.ds.map Dd.c) (λx a=>by obtain⟨r,_,rfl⟩:=List.mem_map.1 a;rfl) (i:=n) (x:=d.c) (by rw[List.getElem?_map,s];rfl) (o:=7) dC (vN x);rw[this];show _=((M.ds.set n {d with cF:=x}).map Dd.c).flatten;rw[List.map_set];rfl
 rw[W] at C;refine⟨⟨⟨?_,m.cE.kt j dC dC,?_,?_,?_,?_⟩,ag h.tr j dC,ag h.im j dC,ag h.fn j dC,h.dG,λf k=>Nat.lt_of_lt_of_le (h.mlt f k) l,h.ly,h.jL,?_,h.jW,h.lK,h.lV,⟨S,by rw[b];exact T,V,?_⟩,?_,?_,?_⟩,z,j⟩
 ·have:=aw j h.mk' dC;unfold cz at*;rw[this];simp
 ·intro X Y r t;rw[b];exact m.q X Y r t
 ·rw[b];exact C
 ·rw[b];exact m.bj
 ·intro c e;rcases N c e with A|A
  ·exact m.lg c A
  ·have D:=m.lg d P;rw[A];exact⟨D.1,D.2.1,a.1,a.2⟩
 ·intro f k;rw[b] at k;exact h.js f k
 ·intro i c r e t;rw[b];by_cases F:i=n
  ·subst F;rw[List.getElem?_set_self R] at e;obtain rfl:=Option.some.inj e;have u:=(B i d r s t).frame q l;exact⟨u.row,u.parts,u.len,u.sz⟩
  ·rw[List.getElem?_set_ne (λZ=>F Z.symm)] at e;exact(B i c r e t).frame q l
 ·intro x a;rw[b];exact(h.jo x a).frame q l
 ·rw[b];exact h.lN.imp (λaa x a=>a.frame q l)
 ·rw[b];exact h.lD.imp (λaa x a=>a.frame q l)
end
section
variable{w wr:World} {mb:Nat} {M M':MK} {trs:VV} {Xd Xi Xf:Nat} {Mu Mu':Nat->Prop} {H:Nat}
theorem US.Lv (q:US w mb M trs Xd Xi Xf Mu H wr M' Mu') {d:Dd} (a:M'.ds[n]? =some d) (b:M'.df=some ⟨g,0,I⟩) (c:0<=x/\x<=6100):US w mb M trs Xd Xi Xf Mu H (wr.setCell ⟨g,n*10+6,I⟩ (vN x)) (M'.put n {d with ai:=x}) Mu':=by
 obtain⟨e,f,-⟩:=q.s.xu a b c;refine⟨e,q.kx.trans (f.mono (λi j k=>q.m2 i j k) q.kx.size),q.m1,q.m2,q.ml,q.own,?_,q.rest,q.hf,q.dj⟩;show(M'.ds.set n _).length=_;rw[List.length_set];exact q.ds
theorem US.Gn (q:US w mb M trs Xd Xi Xf Mu H wr M' Mu') {d:Dd} (a:M'.ds[n]? =some d) (b:M'.df=some ⟨g,0,I⟩) (c:0<=x/\x<=6100):US w mb M trs Xd Xi Xf Mu H (wr.setCell ⟨g,n*10+7,I⟩ (vN x)) (M'.put n {d with cF:=x}) Mu':=by
 obtain⟨e,f,-⟩:=q.s.xw a b c;refine⟨e,q.kx.trans (f.mono (λi j k=>q.m2 i j k) q.kx.size),q.m1,q.m2,q.ml,q.own,?_,q.rest,q.hf,q.dj⟩;show(M'.ds.set n _).length=_;rw[List.length_set];exact q.ds
end
end
section
variable{M:MK} {mb:Nat} {Mu:Nat->Prop} {trs:VV} {w:World}
structure PS (w:World) (mb:Nat) (M:MK) (d:Dd) (trs:VV) (Mu:Nat->Prop):Prop where
 kb:cz w mb M
 ms:M.ms=[]/\M.mo=I/\M.mc=0
 ds:M.ds=[d]
 dd:eG (λb=>¬Mu b) 1 1 1 w d
 lg:0<=d.ai/\d.ai<=6100/\0<=d.cF/\d.cF<=6100
 da:w.ownsRow 0 69 10 (J M.df (O M.ds) M.eo) (O M.ds) (M.ds.map Dd.c).flatten
 tr:w.ownsRow 0 74 5 M.tv (O trs) trs.flatten
 tv:∃o c,M.tv=J o (O trs) c
 rest:M.iv=J I 0 0/\M.fv=J I 0 0/\M.fk=0
 dG:Mu mb
 mlt:∀b,Mu b->b<E (U w)
 js:∀b,(Value.slice M.df (O M.ds) M.eo).ownBlock=some b->Mu b
 jW:∀b,M.tv.ownBlock=some b->Mu b
 jo:∀x∈trs,iZ (λb=>¬Mu b) 1 1 w x
section
variable{w w':World} {mb:Nat} {M:MK} {d:Dd} {trs:VV} {Mu:Nat->Prop}
theorem PS.below (q:PS w mb M d trs Mu) (b:Below (E (U w)) w w'):PS w' mb M d trs Mu:=by
 have f:aq (λa=>¬Mu a) w w':=λa _ c=>b.block a c;have e:=b.size;exact⟨q.kb.below b,q.ms,q.ds,q.dd.frame f e,q.lg,ah q.da (λa _ c=>b.block a c),ah q.tr (λa _ c=>b.block a c),q.tv,q.rest,q.dG,λa h=>Nat.lt_of_lt_of_le (q.mlt a h) e,q.js,q.jW,λi j=>(q.jo i j).frame f e⟩
theorem PS.ua (q:PS w mb M d trs Mu) {r:OA} {s:Nat} (y:M.tv=J r (O trs) s) (k:ByteArray) (z:O trs<=100) (A:TypeId) {ad:Nat} (T:ad=E (U w)):
 ∃t w',(Builtin.append_ #[24,24] A #[J r (O trs) s,J (aS ad) 1 1]).run Tryz.prog (w.alloc (Ob (jr k (-1) 0 true I 0 0) 74))=.ok t w'/\∃c e B,t=J c (O trs+1) e/\cz w' mb M/\KX Mu (E (U w)) w (w'.setCell ⟨mb,2,I⟩ (J c (O trs+1) e))/\(∀a,a<E (U w)->B a->Mu a)/\PS (w'.setCell ⟨mb,2,I⟩ (J c (O trs+1) e)) mb {M with tv:=J c (O trs+1) e} d (trs++[(jr k (-1) 0 true I 0 0).toList]) B:=by
 have u:=q.tr;rw[y] at u;obtain⟨t,w',V,i⟩:=fj (W:=w) Tryz.underlying24 xL Q dC u (zL _) (jr k (-1) 0 true I 0 0) Q (by intro af j;simp at j;repeat(first|(subst j;rfl)|(rcases j with j|j;(subst j;rfl)))) (by unfold maxLen;omega) oM A T;obtain⟨c,e,rfl⟩:=i.shape;have C:=App.kt u i;have v:=aw C q.kb dC;have D:=KT.set v 2 (J c (O trs+1) e);have X:KT (λn=>n≠74/\n≠66) w (w'.setCell ⟨mb,2,I⟩ (J c (O trs+1) e)):=(C.mono (λn x=>x.1)).trans (D.mono (λn x=>x.2));have F:E (U w)<=E (U w'):=lT sQ i.grown.size;have G:E (U w)<=E (U (w'.setCell ⟨mb,2,I⟩ (J c (O trs+1) e))):=sU F;have H:∀a,(Value.slice r (O trs) s).ownBlock=some a->Mu a:=by rw[<-y];exact q.jW
 have Y:KX Mu (E (U w)) w w':=⟨i.grown.os,i.grown.tape,i.grown.output,F,λa b z=>(i.grown.block a (by simp;omega) (λf=>z (H a f.symm))).trans (Below.heap_alloc _ _ _ b)⟩;have K:KX Mu (E (U w)) w (w'.setCell ⟨mb,2,I⟩ (J c (O trs+1) e)):=Y.setCell (p:=⟨mb,2,I⟩) (.inr q.dG) _;have L:aq (λa=>¬Mu a/\a<E (U w)) w (w'.setCell ⟨mb,2,I⟩ (J c (O trs+1) e)):=λa b o=>K.block a o b.1
 have N:∀a,(Value.slice c (O trs+1) e).ownBlock=some a->a<E (U w)->Mu a:=λa b o=>by
  rcases i.own with f|f
  ·exact H a (by rw[<-f];exact b)
  ·rw[f] at b;simp at b;omega
 have P:∀a,¬Mu a->a<E (U w)->(¬Mu a/\a<E (U w)):=λa Z aa=>⟨Z,aa⟩
 have R:∀a,(¬Mu a/\a<E (U w))->a<E (U (w'.setCell ⟨mb,2,I⟩ (J c (O trs+1) e)))->¬(Mu a\/(Value.slice c (O trs+1) e).ownBlock=some a):=λa b _ l=>by
  rcases l with l|l
  ·exact b.1 l
  ·exact b.1 (N a l b.2)
 have S:O (trs++[(jr k (-1) 0 true I 0 0).toList])=O trs+1:=sQ;refine⟨_,w',V,c,e,λa=>Mu a\/(Value.slice c (O trs+1) e).ownBlock=some a,Q,v,K,λa o b=>by rcases b with b|b;exact b;exact N a b o,⟨?_,q.ms,q.ds,((q.dd.weaken P).frame L G).weaken R,q.lg,ag q.da X dC,?_,⟨c,e,by rw[S]⟩,q.rest,.inl q.dG,?_,λa f=>.inl (q.js a f),λa f=>.inr f,?_⟩⟩
 ·have:=heap_setCell_same w' mb 2 _ 66 (J c (O trs+1) e) v;unfold cz at*;rw[this];simp
 ·show(w'.setCell _ _).ownsRow 0 74 5 (J c (O trs+1) e) _ _;rw[S,List.flatten_append];have ab:=ag i.row D dC;simpa using ab
 ·intro a b;rcases b with b|b
  ·have:=q.mlt a b;omega
  ·have:=(i.row.lt a b).2;simpa using this
 ·intro ac m;rcases List.mem_append.1 m with m|m
  ·exact(((q.jo ac m).weaken P).frame L G).weaken R
  ·rw[List.mem_singleton.1 m];exact⟨k,-1,0,true,I,0,[],Q,ro.bH (World.ownsRow_nil _ 0 0 9) (λa f=>by simp[Value.ownBlock] at f),λah ae=>by simp at ae,zL _⟩
theorem PS.yJ (q:PS w mb M d trs Mu) (k:O trs=4):MS w mb M trs [] [] 1 0 0 Mu 1:=by
 have f:O M.ds=1:=by rw[q.ds];rfl
 have i:∀a,(Value.slice I 0 0).ownBlock=some a->False:=λa l=>by simp[Value.ownBlock] at l
 refine⟨⟨q.kb,⟨?_,?_,?_⟩,?_,q.da,?_,?_⟩,q.tr,?_,?_,q.dG,q.mlt,?_,?_,q.js,q.jW,?_,?_,⟨[1],?_,lR _,?_⟩,?_,Sm.nil,Sm.nil⟩
 ·rw[q.ms.1,q.ms.2.1,q.ms.2.2];exact World.ownsRow_nil _ _ _ _
 ·rw[q.ms.1];exact zL _
 ·intro j b;rw[q.ms.1] at b;simp at b
 ·intro j b;rw[q.ms.1] at b;simp at b
 ·rw[f,k];omega
 ·intro m e;rw[q.ds,List.mem_singleton] at e;rw[e];exact q.lg
 ·rw[q.rest.1];exact World.ownsRow_nil _ _ _ _
 ·rw[q.rest.2.1];exact World.ownsRow_nil _ _ _ _
 ·intro a c;rw[q.ms.1,q.ms.2.1,q.ms.2.2] at c;exact absurd c (i a)
 ·intro j b;rw[q.ms.1] at b;simp at b
 ·intro a c;rw[q.rest.1] at c;exact absurd c (i a)
 ·intro a c;rw[q.rest.2.1] at c;exact absurd c (i a)
 ·rw[f];rfl
 ·intro r m s e n;rw[q.ds] at e;have o:=List.mem_singleton.1 (mG e);have p:=List.mem_singleton.1 (mG n);rw[o,p,f];exact q.dd
 ·rw[f];exact q.jo
end
theorem nM {B0 h:Nat}:∀{mks:VV},(∀b∈mks,isNode (λm=>m<B0) True (h+5) w b)->(∀f∈mks.map az,f=1)->∃e:List VV,O e=O mks/\(∀(c:Nat) (a:VV),e[c]? =some a->∃o p q r i j,mks[c]? =some (ae 1 o p q r (J i (O a) j)).toList/\cU B0 w (J i (O a) j) a/\(∀c,c<O a->∃g,i=some ⟨g,0,I⟩)/\(∀b∈a,isNode (λm=>m<B0) True (h+4) w b)/\∀b∈a.map az,b=2\/b=3\/b=6\/b=7\/b=108)/\(e.map (λa=>(a.map (aG (h+4) w)).sum)).sum<=(mks.map (aG (h+5) w)).sum
 |[],_,_=>⟨[],Q,λc a k=>by simp at k,lR _⟩
 |b::mks,hk,hl=>by
  obtain⟨e,C,D,T⟩:=nM (mks:=mks) (λf s=>hk f (List.mem_cons_of_mem _ s)) (λf s=>hl f (by rw[List.map_cons];exact List.mem_cons_of_mem _ s));have t:=hk b (List.mem_cons_self ..);obtain⟨u,v,n,x,y,z,l,A,rfl,-⟩:=isNode.cells t;have F:=hl (az (ae u v n x y (J z l A)).toList) (by rw[List.map_cons];exact List.mem_cons_self ..);obtain rfl:u=1:=dt (n:=n) (l:=l) F dC;obtain⟨B,rfl,G,H,K,L,-,N,-,-⟩:=t.kids;refine⟨B::e,by simp[C],λc a k=>?_,?_⟩
  ·cases c with
   |zero=>
    obtain rfl:B=a:=sU k;exact⟨v,n,x,y,z,A,Q,G,N,H,K.mod Q⟩
   |succ c=>
    have P:e[c]? =some a:=sU k;obtain⟨o,p,q,r,i,j,R,S⟩:=D c a P;exact⟨o,p,q,r,i,j,sU R,S⟩
  ·rw[List.map_cons,List.map_cons,List.sum_cons,List.sum_cons,L];omega
def Iq (M:MK) (kss:List VV) (F:Nat):Prop:=O M.ms=O kss/\(M.fk=0->(∀(j:Nat) (md:Md) (ks:VV),M.ms[j]? =some md->kss[j]? =some ks->∀(c p n m:Int) (s:ByteArray) (kv:Value),(ae c p n m s kv).toList∈ks->c=3\/c=6\/c=8->∀r∈md.ns.take md.own,r.name.toList=s.toList->(c=3->r.sort=0)/\(c=6->r.sort=2))/\∀m∈M.ms,∀y∈m.ns.take m.own,y.sort=3->0<=y.n/\y.n<(F:Int))
theorem Iq.next {a:MK} {kss:List VV} {b:Nat} (h:Iq M kss b) (c:a.ms=M.ms) (f:M.fk≠0->a.fk≠0):Iq a kss b:=by
 refine⟨by rw[c];exact h.1,λi=>?_⟩
 have j:M.fk=0:=by
  by_cases e:M.fk=0
  ·exact e
  ·exact absurd i (f e)
 rw[c];exact h.2 j
theorem Iq.of {j x:World} {a k:MK} {l:VV} {m n o:Nat} {p y:Nat->Prop} {H:Nat} {kss:List VV} (q:NO w mb M trs m n o Mu H kss j a l p) (u:US j mb a l m n o p H x k y):Iq k kss (kss.flatten.map bB).sum:=by
 refine⟨u.ml.trans q.ml,λz=>?_⟩
 have A:a.fk=0:=by
  by_cases r:a.fk=0
  ·exact r
  ·exact absurd z (u.hf r)
 refine⟨λb B C c D V W X s Y Z F G aa t K=>?_,λs L N v P=>?_⟩
 ·obtain⟨e,f,R,i⟩:=u.own b B c;rw[i] at t;obtain⟨S,T⟩:=q.ok A b e C f D;have:=S.sort T F G (List.mem_of_mem_take t) K;exact⟨this.1,this.2.1⟩
 ·obtain⟨b,c⟩:=List.mem_iff_getElem?.1 L;obtain⟨e,f,R,i⟩:=u.own b s c;rw[i] at v;have:=q.q e (mG f) N (List.mem_of_mem_take v);exact⟨this.1.1,this.2 P⟩
end
theorem pQ {w:World} {base n a size:Nat} {e:TypeId} {o:OA} {xs:List Value} (h:w.ownsRow base e size (J o n a) n xs):n<=a:=by
 rcases h.2 with⟨-,rfl⟩|⟨g,c,cur,ev,-,-,hn,-⟩
 ·exact zL _
 ·simp at ev;rw[ev.2];exact hn
structure PG (w:World) (D H:Nat) (df:OA) (eo:Nat) (ds:List Dd) (ivo:OA) (ivc:Nat) (au:VV) (fvo:OA) (fvc:Nat) (fns:VV) (Xd Xi Xf:Nat):Prop where
 da:ro w (λb=>b<E (U w)) 10 (J df (O ds) eo) (O ds) (ds.map Dd.c).flatten
 im:ro w (λb=>b<E (U w)) 10 (J ivo (O au) ivc) (O au) au.flatten
 fn:ro w (λb=>b<E (U w)) 30 (J fvo (O fns) fvc) (O fns) fns.flatten
 jR:∃Ys:List Nat,O Ys=O ds/\Ys.sum<=Xd/\∀(i:Nat) (d:Dd) (y:Nat),ds[i]? =some d->Ys[i]? =some y->eG (λb=>b<E (U w)) D H y w d
 lN:Sm (λY x=>iH (λb=>b<E (U w)) D H Y w x) au Xi
 lD:Sm (λY x=>ig (λb=>b<E (U w)) D H Y w x) fns Xf
 bj:O ds<=200000/\O au<=200000/\O fns<=200000
 h1:1<=H
 sum:1+3*Xf+Xd+Xi<=2199023255552
 cap:O au<=ivc
section
variable{Mu:Nat->Prop} {W W' w:World}
def gD (w:World) (e:Ending) (w':World):Prop:=∃(mo:OA) (ml mc:Nat) (df:OA) (dl eo:Nat) (to':OA) (tl tc:Nat) (io:OA) (il ic:Nat) (fo:OA) (fl fc:Nat) (mn:Int) (ro':OA) (rl rc:Nat) (k a:Int),e=.returned (.tuple #[.agg (eL (J mo ml mc) (J df dl eo) (J to' tl tc) (J io il ic) (J fo fl fc) mn (J ro' rl rc)),.agg #[vN k,vN a]])/\Below (E (U w)) w w'/\(k=0->a=0/\∃(D H:Nat) (ds:List Dd) (au fns:VV) (Xd Xi Xf:Nat),dl=O ds/\il=O au/\fl=O fns/\PG w' D H df eo ds io ic au fo fc fns Xd Xi Xf)
abbrev MZ:MK:=⟨I,0,[],I,0,[],J I 0 0,J I 0 0,J I 0 0,0,J I 0 0,0,0,J I 0 0⟩
structure yI (w w3 w4:World) (nd:Array Value):Prop where
 b3:Below (E (U w)) w w3
 s3:E (U w3)=E (U w)+3
 n:w3.heap[E (U w)]? =some (Ob nd 48 (0,0))
 p:w3.heap[E (U w)+1]? =some (Ob (eL (J I 0 0) (J I 0 0) (J I 0 0) (J I 0 0) (J I 0 0) 0 (J I 0 0)) 29 (0,0))
 f:w3.heap[E (U w)+2]? =some (Ob #[vN 0,vN 0] 32 (0,0))
 b4:Below (E (U w3)) w3 w4
 mk':cz w4 (E (U w)+3) MZ
theorem yI.of {c d:World} {a:Array Value} (e:c=(((w.alloc (Ob a 48)).alloc (Ob (eL (J I 0 0) (J I 0 0) (J I 0 0) (J I 0 0) (J I 0 0) 0 (J I 0 0)) 29)).alloc (Ob #[vN 0,vN 0] 32))) (f:d=(((w.alloc (Ob a 48)).alloc (Ob (eL (J I 0 0) (J I 0 0) (J I 0 0) (J I 0 0) (J I 0 0) 0 (J I 0 0)) 29)).alloc (Ob #[vN 0,vN 0] 32)).alloc (Ob (jM MZ) 66)):yI w c d a:=by
 rw[<-e] at f;subst f;subst e;obtain⟨n,o⟩:=al1 w (Ob a 48);obtain⟨i,j⟩:=al1 (w.alloc (Ob a 48)) (Ob (eL (J I 0 0) (J I 0 0) (J I 0 0) (J I 0 0) (J I 0 0) 0 (J I 0 0)) 29);obtain⟨b,k⟩:=al1 ((w.alloc (Ob a 48)).alloc (Ob (eL (J I 0 0) (J I 0 0) (J I 0 0) (J I 0 0) (J I 0 0) 0 (J I 0 0)) 29)) (Ob #[vN 0,vN 0] 32);obtain⟨p,l⟩:=al1 (((w.alloc (Ob a 48)).alloc (Ob (eL (J I 0 0) (J I 0 0) (J I 0 0) (J I 0 0) (J I 0 0) 0 (J I 0 0)) 29)).alloc (Ob #[vN 0,vN 0] 32)) (Ob (jM MZ) 66);have q:E (U (w.alloc (Ob a 48)))=E (U w)+1:=sQ;have r:E (U ((w.alloc (Ob a 48)).alloc (Ob (eL (J I 0 0) (J I 0 0) (J I 0 0) (J I 0 0) (J I 0 0) 0 (J I 0 0)) 29)))=E (U w)+2:=sQ;have m:E (U (((w.alloc (Ob a 48)).alloc (Ob (eL (J I 0 0) (J I 0 0) (J I 0 0) (J I 0 0) (J I 0 0) 0 (J I 0 0)) 29)).alloc (Ob #[vN 0,vN 0] 32)))=E (U w)+3:=sQ;rw[q] at j;rw[r] at k;rw[m] at l;refine⟨(n.trans (i.mono oM)).trans (b.mono oM),m,?_,?_,k,p,l⟩
 ·exact(b.block _ oM).trans ((i.block _ oM).trans o)
 ·exact(b.block _ oM).trans j
def IB (w W:World) (Mu:Nat->Prop):Prop:=Below (E (U w)) w W/\∀b,Mu b->E (U w)<=b
theorem IB.kx {Mu':Nat->Prop} (h:IB w W Mu) (c:KX Mu (E (U W)) W W') (f:∀b,b<E (U W)->Mu' b->Mu b):IB w W' Mu':=by
 obtain⟨a,e⟩:=h;have k:=a.size;refine⟨⟨c.os.trans a.os,c.tape.trans a.tape,c.output.trans a.output,lT a.size c.size,λb d=>(c.block b oM (λi=>oH (e b i))).trans (a.block b d)⟩,λb d=>?_⟩;by_cases j:b<E (U W)
 ·exact e b (f b j d)
 ·omega
theorem IB.below (h:IB w W Mu) (a:Below (E (U W)) W W'):IB w W' Mu:=h.kx (KX.al a) (λ_ _ h=>h)
end
section
variable{nm:ByteArray} {M:MK} {A B c gt mb:Nat} {Mu:Nat->Prop} {tA:TypeId} {trs:VV} {w w3:World}
theorem mr {S:Nat->Prop} {size g:Nat} {e:TypeId} {cs:Array Value} (h:w.heap[g]? =some (Ob cs e (0,0))) (a:cs.size=size) (hS:S g):ro w S size (J (aS g) 1 c) 1 cs.toList:=
 ⟨_,_,Q,by simp[a],λ_=>⟨g,Q,hS,(gE h).1,λb _=>by rw[cell_of_row w g b cs e (0,0) h];simp⟩⟩
theorem wJ (w:World) (c1 c2 c3:Array Value) (t1 t2 t3:TypeId):Below (E (U w)) w (((w.alloc (Ob c1 t1)).alloc (Ob c2 t2)).alloc (Ob c3 t3))/\(((w.alloc (Ob c1 t1)).alloc (Ob c2 t2)).alloc (Ob c3 t3)).heap[E (U w)]? =some (Ob c1 t1 (0,0))/\(((w.alloc (Ob c1 t1)).alloc (Ob c2 t2)).alloc (Ob c3 t3)).heap[E (U w)+1]? =some (Ob c2 t2 (0,0))/\(((w.alloc (Ob c1 t1)).alloc (Ob c2 t2)).alloc (Ob c3 t3)).heap[E (U w)+1+1]? =some (Ob c3 t3 (0,0)):=by
 obtain⟨d,e,f⟩:=dW w (Ob c1 t1) (Ob c2 t2);obtain⟨a,b⟩:=al1 ((w.alloc (Ob c1 t1)).alloc (Ob c2 t2)) (Ob c3 t3);have i:E (U ((w.alloc (Ob c1 t1)).alloc (Ob c2 t2)))=E (U w)+1+1:=sQ;rw[i] at b;exact⟨d.trans (a.mono oM),(a.block _ oM).trans e,(a.block _ oM).trans f,b⟩
abbrev MO (w4 w2:World):MK:={MZ with df:=some ⟨E (U w2),0,I⟩,eo:=1,ds:=[mB w4]}
theorem PS.init {d a:World} (v:E (U w3)<=mb) (H:mb<E (U d)) (n:cz a mb MZ) (o:Below (E (U w3)) w3 d) (q:Below (E (U d)) d a) (r:eG (λb=>E (U d)<=b) 1 1 1 a (mB d)):PS ((a.setCell ⟨mb,1,I⟩ (J (aS (E (U a))) 1 1)).alloc (Ob #[.string ⟨#[79,112,116,105,111,110]⟩,vN (-1),vN 0,.bool true,.bool true,.bool true,vN 0,vN 1,J (aS (E (U d)+2)) 2 2,vN (-1)] 69)) mb (MO d a) (mB d) [] (λb=>b=mb\/b=E (U a))/\IB w3 ((a.setCell ⟨mb,1,I⟩ (J (aS (E (U a))) 1 1)).alloc (Ob #[.string ⟨#[79,112,116,105,111,110]⟩,vN (-1),vN 0,.bool true,.bool true,.bool true,vN 0,vN 1,J (aS (E (U d)+2)) 2 2,vN (-1)] 69)) (λb=>b=mb\/b=E (U a)):=by
 have K:=q.size;have x:=o.size;have L:=n.lt;obtain⟨e,k⟩:∃e,e=a.setCell ⟨mb,1,I⟩ (J (aS (E (U a))) 1 1):=⟨_,Q⟩;have s:E (U e)=E (U a):=by rw[k];simp
 have f:=heap_setCell_same a mb 1 _ 66 (J (aS (E (U a))) 1 1) n;rw[<-k] at f⊢;obtain⟨m,t⟩:=al1 e (Ob #[.string ⟨#[79,112,116,105,111,110]⟩,vN (-1),vN 0,.bool true,.bool true,.bool true,vN 0,vN 1,J (aS (E (U d)+2)) 2 2,vN (-1)] 69);rw[s] at t;have y:(e.alloc (Ob #[.string ⟨#[79,112,116,105,111,110]⟩,vN (-1),vN 0,.bool true,.bool true,.bool true,vN 0,vN 1,J (aS (E (U d)+2)) 2 2,vN (-1)] 69)).heap[mb]? =some (Ob (jM (MO d a)) 66 (0,0)):=(m.block _ oM).trans f;have N:E (U (e.alloc (Ob #[.string ⟨#[79,112,116,105,111,110]⟩,vN (-1),vN 0,.bool true,.bool true,.bool true,vN 0,vN 1,J (aS (E (U d)+2)) 2 2,vN (-1)] 69)))=E (U a)+1:=by simp[s]
 have u:∀b,b≠mb->b<E (U a)->(e.alloc (Ob #[.string ⟨#[79,112,116,105,111,110]⟩,vN (-1),vN 0,.bool true,.bool true,.bool true,vN 0,vN 1,J (aS (E (U d)+2)) 2 2,vN (-1)] 69)).heap[b]? =a.heap[b]? :=λb i j=>(m.block b oM).trans (by rw[k];exact Below.heap_setCell _ ⟨mb,1,I⟩ _ _ i);have z:aq (λb=>E (U d)<=b) a (e.alloc (Ob #[.string ⟨#[79,112,116,105,111,110]⟩,vN (-1),vN 0,.bool true,.bool true,.bool true,vN 0,vN 1,J (aS (E (U d)+2)) 2 2,vN (-1)] 69)):=λb i j=>u b oM j;have P:=r.frame z oM;have C:eG (λb=>E (U d)<=b/\b<E (U a)) 1 1 1 (e.alloc (Ob #[.string ⟨#[79,112,116,105,111,110]⟩,vN (-1),vN 0,.bool true,.bool true,.bool true,vN 0,vN 1,J (aS (E (U d)+2)) 2 2,vN (-1)] 69)) (mB d):=(r.weaken (S':=λb=>E (U d)<=b/\b<E (U a)) (λb i j=>⟨i,j⟩)).frame (λb i j=>u b oM j) oM;refine⟨⟨y,⟨Q,Q,Q⟩,Q,C.weaken (λb i _ f=>by rcases f with f|f<;>omega),⟨show(0:Int)<=0 by decide,show(0:Int)<=6100 by decide,show(0:Int)<=1 by decide,show(1:Int)<=6100 by decide⟩,⟨Q,.inr ⟨E (U a),1,#[.string ⟨#[79,112,116,105,111,110]⟩,vN (-1),vN 0,.bool true,.bool true,.bool true,vN 0,vN 1,J (aS (E (U d)+2)) 2 2,vN (-1)],Q,zL _,t,lR _,by unfold maxLen;omega,Q,Q⟩⟩,World.ownsRow_nil _ _ _ _,⟨I,0,Q⟩,⟨Q,Q,Q⟩,.inl Q,λb h=>by rcases h with h|h<;>omega,λb l=>.inr (by simp[Value.ownBlock] at l;exact l.symm),λb l=>by simp[Value.ownBlock] at l,λR D=>by simp at D⟩,⟨?_,λb h=>by rcases h with h|h<;>omega⟩⟩;have F:Below (E (U w3)) w3 a:=o.trans (q.mono x);have G:Below (E (U w3)) w3 e:=by rw[k];exact F.setCell (p:=⟨mb,1,I⟩) v _
 exact G.trans (m.mono oM)
theorem PS.drop {d:Dd} (q:PS w mb M d trs Mu) (i:O trs=4) (l:trs[3]? =some (jr nm (-1) 0 true I 0 0).toList) (m:M.tv=J (aS gt) 4 c) {G b e:Nat} (n:w.heap[A]? =some (Ob #[vN 1] tA (0,0))) (o:w.heap[B]? =some (Ob (ak 5 0 (J I 0 0) (J I 0 0)) 41 (0,0))) (p:w.heap[b]? =some (Ob (ak 7 0 (J (aS A) 1 1) (J (aS B) 1 1)) 41 (0,0))) (r:w.heap[e]? =some (Ob (eM ⟨#[100,114,111,112]⟩ 1 (J I 0 0) (J (aS G) 1 1) (aS b) 1 1 3 0 (J I 0 0) (J I 0 0)) 81 (0,0))) (s:¬Mu A) (t:¬Mu B) (u:¬Mu b) (v:¬Mu e):
 ∃j,O j=4/\MS (w.setCell ⟨gt,19,I⟩ (J (aS e) 1 1)) mb M j [] [] 1 0 0 Mu 3/\KX Mu (E (U w)) w (w.setCell ⟨gt,19,I⟩ (J (aS e) 1 1)):=by
 have x:=(q.yJ i).le (H':=3) dC;have y:O M.ds=1:=by rw[q.ds];rfl
 have z:af (λa=>¬Mu a) (Gd 1) 1 w (ak 5 0 (J I 0 0) (J I 0 0)).toList:=(dz ⟨dC,dC,dC⟩).1;have C:af (λa=>¬Mu a) (Gd 1) 2 w (ak 7 0 (J (aS A) 1 1) (J (aS B) 1 1)).toList:=kR (ls:=[1]) (vs:=[(ak 5 0 (J I 0 0) (J I 0 0)).toList]) (mr n Q s) (mr o Q t) dC dC ⟨dC,dC,λ_=>⟨Q,Q⟩,dC⟩ (λK D=>by rw[List.mem_singleton.1 D];exact z);have F:fT (λa=>¬Mu a) 1 3 w (eM ⟨#[100,114,111,112]⟩ 1 (J I 0 0) (J (aS G) 1 1) (aS b) 1 1 3 0 (J I 0 0) (J I 0 0)).toList:=⟨_,1,I,0,0,some ⟨G,0,I⟩,1,1,some ⟨b,0,I⟩,1,[(ak 7 0 (J (aS A) 1 1) (J (aS B) 1 1)).toList],3,0,I,0,0,I,0,0,Q,mr p Q u,λH f=>by rw[List.mem_singleton.1 f];exact af.le C _ dC,af.le (dz ⟨dC,dC,dC⟩).1 _ dC,(show 1<=30000 by decide)⟩;have k:=x.vl l m (mo:=some ⟨e,0,I⟩) (mc:=1) (ms:=[(eM ⟨#[100,114,111,112]⟩ 1 (J I 0 0) (J (aS G) 1 1) (aS b) 1 1 3 0 (J I 0 0) (J I 0 0)).toList]) (by have:=mr (size:=9) (c:=1) (S:=λa=>¬Mu a) r Q v;simpa using this) (λH f=>by rw[List.mem_singleton.1 f,y];exact F) (show 1<=30000 by decide);exact⟨_,by rw[List.length_set];exact i,k.1,k.2.1⟩
theorem PS.yd {d:Dd} (q:PS w mb M d trs Mu) (k:IB w3 w Mu) (l:O trs=4) (m:trs[3]? =some (jr nm (-1) 0 true I 0 0).toList) (n:M.tv=J (aS gt) 4 c) (o:gt<E (U w)) (e:w.heap[A]? =some (Ob #[vN 1] tA (0,0))) (f:w.heap[B]? =some (Ob (ak 5 0 (J I 0 0) (J I 0 0)) 41 (0,0))) (p:¬Mu A) (r:¬Mu B):∃a,O a=4/\MS (((((w.setCell ⟨gt,19,I⟩ (J (aS (E (U w)+1+1)) 1 1)).alloc (Ob #[J I 0 0,J I 0 0] 76)).alloc (Ob (ak 7 0 (J (aS A) 1 1) (J (aS B) 1 1)) 41)).alloc (Ob (eM ⟨#[100,114,111,112]⟩ 1 (J I 0 0) (J (aS (E (U w))) 1 1) (aS (E (U w)+1)) 1 1 3 0 (J I 0 0) (J I 0 0)) 81)).drew) mb M a [] [] 1 0 0 Mu 3/\IB w3 (((((w.setCell ⟨gt,19,I⟩ (J (aS (E (U w)+1+1)) 1 1)).alloc (Ob #[J I 0 0,J I 0 0] 76)).alloc (Ob (ak 7 0 (J (aS A) 1 1) (J (aS B) 1 1)) 41)).alloc (Ob (eM ⟨#[100,114,111,112]⟩ 1 (J I 0 0) (J (aS (E (U w))) 1 1) (aS (E (U w)+1)) 1 1 3 0 (J I 0 0) (J I 0 0)) 81)).drew) Mu:=by
 obtain⟨b,C,s,t⟩:=wJ w #[J I 0 0,J I 0 0] (ak 7 0 (J (aS A) 1 1) (J (aS B) 1 1)) (eM ⟨#[100,114,111,112]⟩ 1 (J I 0 0) (J (aS (E (U w))) 1 1) (aS (E (U w)+1)) 1 1 3 0 (J I 0 0) (J I 0 0)) 76 41 81;have u:=(gE e).1;have v:=(gE f).1;obtain⟨a,x,i,y⟩:=(q.below b).drop l m n ((b.block _ u).trans e) ((b.block _ v).trans f) s t p r (λh=>oH (q.mlt _ h)) (λh=>oH (q.mlt _ h));have j:=(k.below b).kx y (λ_ _ h=>h)
 have z:(((w.alloc (Ob #[J I 0 0,J I 0 0] 76)).alloc (Ob (ak 7 0 (J (aS A) 1 1) (J (aS B) 1 1)) 41)).alloc (Ob (eM ⟨#[100,114,111,112]⟩ 1 (J I 0 0) (J (aS (E (U w))) 1 1) (aS (E (U w)+1)) 1 1 3 0 (J I 0 0) (J I 0 0)) 81)).setCell ⟨gt,19,I⟩ (J (aS (E (U w)+1+1)) 1 1)=(((w.setCell ⟨gt,19,I⟩ (J (aS (E (U w)+1+1)) 1 1)).alloc (Ob #[J I 0 0,J I 0 0] 76)).alloc (Ob (ak 7 0 (J (aS A) 1 1) (J (aS B) 1 1)) 41)).alloc (Ob (eM ⟨#[100,114,111,112]⟩ 1 (J I 0 0) (J (aS (E (U w))) 1 1) (aS (E (U w)+1)) 1 1 3 0 (J I 0 0) (J I 0 0)) 81):=by
  rw[World.setCell_alloc_past _ _ _ _ (by simp;omega),World.setCell_alloc_past _ _ _ _ (by simp;omega),World.setCell_alloc_past _ _ _ _ o]
 rw[z] at i j;exact⟨a,x,i.below ((Below.refl _ _).drew),j.below ((Below.refl _ _).drew)⟩
theorem PS.yc {d:Dd} (q:PS w mb M d trs Mu) (k:IB w3 w Mu) (l:O trs=4) (m:trs[3]? =some (jr nm (-1) 0 true I 0 0).toList) (n:M.tv=J (aS gt) 4 c) (o:gt<E (U w)) (e:w.heap[A]? =some (Ob #[vN 1] tA (0,0))) (f:w.heap[B]? =some (Ob (ak 5 0 (J I 0 0) (J I 0 0)) 41 (0,0))) (p:¬Mu A) (r:¬Mu B):∃a,O a=4/\MS (((((w.setCell ⟨gt,19,I⟩ (J (aS (E (U w)+1+1)) 1 1)).alloc (Ob (ak 7 0 (J (aS A) 1 1) (J (aS B) 1 1)) 41)).alloc (Ob #[J I 0 0,J I 0 0] 76)).alloc (Ob (eM ⟨#[100,114,111,112]⟩ 1 (J I 0 0) (J (aS (E (U w)+1)) 1 1) (aS (E (U w))) 1 1 3 0 (J I 0 0) (J I 0 0)) 81)).drew) mb M a [] [] 1 0 0 Mu 3/\IB w3 (((((w.setCell ⟨gt,19,I⟩ (J (aS (E (U w)+1+1)) 1 1)).alloc (Ob (ak 7 0 (J (aS A) 1 1) (J (aS B) 1 1)) 41)).alloc (Ob #[J I 0 0,J I 0 0] 76)).alloc (Ob (eM ⟨#[100,114,111,112]⟩ 1 (J I 0 0) (J (aS (E (U w)+1)) 1 1) (aS (E (U w))) 1 1 3 0 (J I 0 0) (J I 0 0)) 81)).drew) Mu:=by
 obtain⟨b,s,C,t⟩:=wJ w (ak 7 0 (J (aS A) 1 1) (J (aS B) 1 1)) #[J I 0 0,J I 0 0] (eM ⟨#[100,114,111,112]⟩ 1 (J I 0 0) (J (aS (E (U w)+1)) 1 1) (aS (E (U w))) 1 1 3 0 (J I 0 0) (J I 0 0)) 41 76 81;have u:=(gE e).1;have v:=(gE f).1;obtain⟨a,x,i,y⟩:=(q.below b).drop l m n ((b.block _ u).trans e) ((b.block _ v).trans f) s t p r (λh=>oH (q.mlt _ h)) (λh=>oH (q.mlt _ h));have j:=(k.below b).kx y (λ_ _ h=>h)
 have z:(((w.alloc (Ob (ak 7 0 (J (aS A) 1 1) (J (aS B) 1 1)) 41)).alloc (Ob #[J I 0 0,J I 0 0] 76)).alloc (Ob (eM ⟨#[100,114,111,112]⟩ 1 (J I 0 0) (J (aS (E (U w)+1)) 1 1) (aS (E (U w))) 1 1 3 0 (J I 0 0) (J I 0 0)) 81)).setCell ⟨gt,19,I⟩ (J (aS (E (U w)+1+1)) 1 1)=(((w.setCell ⟨gt,19,I⟩ (J (aS (E (U w)+1+1)) 1 1)).alloc (Ob (ak 7 0 (J (aS A) 1 1) (J (aS B) 1 1)) 41)).alloc (Ob #[J I 0 0,J I 0 0] 76)).alloc (Ob (eM ⟨#[100,114,111,112]⟩ 1 (J I 0 0) (J (aS (E (U w)+1)) 1 1) (aS (E (U w))) 1 1 3 0 (J I 0 0) (J I 0 0)) 81):=by
  rw[World.setCell_alloc_past _ _ _ _ (by simp;omega),World.setCell_alloc_past _ _ _ _ (by simp;omega),World.setCell_alloc_past _ _ _ _ o]
 rw[z] at i j;exact⟨a,x,i.below ((Below.refl _ _).drew),j.below ((Below.refl _ _).drew)⟩
end
end Go.Proofs.YtdghkacbpebcoaaGreat
