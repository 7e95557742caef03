import Derived.Test.YtcnnibahjmekdaaGreatS26
namespace Go.Proofs.YtcnnibahjmekdaaGreat
open Go.RowKit
open Value renaming slice→J
open List renaming length→O
open Option renaming none→I
open World renaming heap→U
open _root_.Array renaming size→E
open Obj renaming cells→Ob
set_option linter.all false
set_option maxRecDepth 100000
set_option maxHeartbeats 0
section
variable{ac an bc bn h h':Nat} {S S':Nat->Prop} {aao bao:OA} {va vb:VV} {w:World}
theorem ro.int {v:Value} {ls:List Int} (h:ro w S 1 v (O ls) (aC ls)) {i:Nat} (b:i<O ls):∃g a,v=J (aS g) (O ls) a/\S g/\g<E (U w)/\w.cell? ⟨g,i,I⟩=some (vN ls[i]):=by
 obtain⟨f,a,rfl,j,c⟩:=h;obtain⟨g,rfl,hS,d,e⟩:=c oM;refine⟨g,a,Q,hS,d,?_⟩;rw[e i oM];unfold aC;rw[List.getElem?_map,gG b];rfl
theorem o5 {la lb:List Int} (u:ro w S 1 (J aao an ac) (O la) (aC la)) (v:ro w S' 1 (J bao bn bc) (O lb) (aC lb)) (ae:O la<=30000):
 Calls Tryz.prog 15 #[J aao an ac,J bao bn bc] w (fB w (la=lb)):=by
 obtain rfl:=u.len;obtain rfl:=v.len;by_cases k:O la=O lb
 ·have N:((O la:Int) !=(O lb:Int))=false:=by simp[k]
  have x:Hid (O la=O lb):=k;clear k;go_enter Tryz.func15,Tryz.ntmps15
  go_wp2_with fail;go_loopg [5,13] (O la) (λP _ R wr=>∃a:Nat,P=O la - a/\R=vN a/\a<=O la/\(∀b:Nat,b<a->la[b]? =lb[b]?)/\Below (E (U w)) w wr)
  case atStart=>exact⟨0,Q,Q,zL _,λb y=>absurd y (Nat.not_lt_zero _),Below.refl _ _⟩
  case round=>
   obtain⟨a,z,rfl,af,A,f⟩:=hrel;have T:Hid (gk=O la - a):=z;have B:Hid (∀b:Nat,b<a->la[b]? =lb[b]?):=A;clear z A;by_cases l:a<O la
   ·have C:a<O lb:=by rw[<-x.out];exact l
    obtain⟨m,V,D,ag,W,o⟩:=u.int l;obtain⟨n,X,F,ah,Y,q⟩:=v.int C;obtain⟨rfl,rfl⟩:aao=some ⟨m,0,I⟩/\ac=V:=sU D;obtain⟨rfl,rfl⟩:bao=some ⟨n,0,I⟩/\bc=X:=sU F;clear D F;have ai:=f.size;have aj:m<E (U wr):=oM;have ak:n<E (U wr):=oM;obtain⟨c,r⟩:∃s,s=la[a]:=⟨_,Q⟩;obtain⟨d,t⟩:∃s,s=lb[a]:=⟨_,Q⟩;rw[<-r] at o;rw[<-t] at q;have G:Hid (la[a]? =some c):=by show la[a]? =some c;rw[gG l,r]
    have H:Hid (lb[a]? =some d):=by show lb[a]? =some d;rw[gG C,t]
    clear r t;have al:wr.cell? ⟨m,a,I⟩=some (vN c):=(f.cell (p:=⟨m,a,I⟩) W).trans o;have ao:wr.cell? ⟨n,a,I⟩=some (vN d):=(f.cell (p:=⟨n,a,I⟩) Y).trans q;clear o q;have K:(a:Int)<(O la:Int):=oM;have ap:(a:Int)<(O lb:Int):=oM;have aq:(O la:Int)<=30000:=oM;go_upto_region 6 with fail
    go_cut [24] (λZ aa=>Z=.bool (c !=d)/\Below (E (U w)) w aa)
    case first=>
     go_region
     all_goals
      go_wp2_with fail;go_meet;exact⟨Q,f.drew⟩
    case rest=>
     obtain⟨rfl,L⟩:=hcut;by_cases i:c=d
     ·have ab:(c !=d)=false:=by simp[i]
      have ad:Hid (c=d):=i;clear i;go_wp2_with fail;go_roundg (O la - (a+1))
      case measure=>rw[T.out];omega
      case rel=>
       refine⟨a+1,Q,by go_num,l,λb y=>?_,L⟩;rcases Nat.lt_or_ge b a with j|j
       ·exact B.out b j
       ·obtain rfl:b=a:=oM;rw[G.out,H.out,ad.out]
     ·have ab:(c !=d)=true:=sU i;go_wp2_with fail;go_ret;refine⟨false,Q,⟨λe=>absurd e dC,λe=>?_⟩,L⟩;have M:=G.out;rw[e,H.out] at M;exact absurd (Option.some.inj M).symm i
   ·have K:¬(a:Int)<(O la:Int):=oM;have ar:decide ((a:Int)<(O la:Int))=false:=sU K;go_wp2_with fail;go_ret;refine⟨true,Q,⟨λ_=>?_,λ_=>rfl⟩,f⟩;apply List.ext_getElem?
    intro b;rcases Nat.lt_or_ge b a with j|j
    ·exact B.out b j
    ·have au:=x.out;rw[List.getElem?_eq_none oM,List.getElem?_eq_none oM]
 ·have N:((O la:Int) !=(O lb:Int))=true:=by simp;omega
  go_enter Tryz.func15,Tryz.ntmps15
  go_wp2_with fail;go_ret;exact⟨false,Q,⟨λe=>absurd e dC,λe=>absurd (congrArg List.length e) k⟩,Below.refl _ _⟩
def nH (S S':Nat->Prop) (G G':Int->Int->Nat->Nat->Prop) (h h':Nat):Prop:=∀{w:World} {ka na kb nb:Int} {aw lbo aao bao:OA} {lan lac lbn lbc an ac bn bc:Nat},af S G h w (ai ka na (J aw lan lac) (J aao an ac)).toList->af S' G' h' w (ai kb nb (J lbo lbn lbc) (J bao bn bc)).toList->
 Calls Tryz.prog 8 #[.agg (ai ka na (J aw lan lac) (J aao an ac)),.agg (ai kb nb (J lbo lbn lbc) (J bao bn bc))] w (fB w (enc h w (ai ka na (J aw lan lac) (J aao an ac)).toList=enc h w (ai kb nb (J lbo lbn lbc) (J bao bn bc)).toList))
theorem nL {G F:Int->Int->Nat->Nat->Prop} (ak:nH S S' G F h h') (V:ro w S 4 (J aao an ac) (O va) va.flatten) (W:ro w S' 4 (J bao bn bc) (O vb) vb.flatten) (H:∀x∈va,af S G h w x) (K:∀x∈vb,af S' F h' w x) (aX:O va<=30000):
 Calls Tryz.prog 16 #[J aao an ac,J bao bn bc] w (fB w (va.map (enc h w)=vb.map (enc h w))):=by
 obtain rfl:=V.len;obtain rfl:=W.len;have aC:Hid (nH S S' G F h h'):=ak;clear ak;by_cases L:O va=O vb
 ·have aD:((O va:Int) !=(O vb:Int))=false:=by simp[L]
  have ao:Hid (O va=O vb):=L;clear L;go_enter Tryz.func16,Tryz.ntmps16
  go_wp2_with fail;go_loopg [5,13] (O va) (λaE _ aF wr=>∃a:Nat,aE=O va - a/\aF=vN a/\a<=O va/\(∀b:Nat,b<a->(va[b]?).map (enc h w)=(vb[b]?).map (enc h w))/\Below (E (U w)) w wr)
  case atStart=>exact⟨0,Q,Q,zL _,λb ap=>absurd ap (Nat.not_lt_zero _),Below.refl _ _⟩
  case round=>
   obtain⟨a,aq,rfl,aY,ar,c⟩:=hrel;have aG:Hid (gk=O va - a):=aq;have au:Hid (∀b:Nat,b<a->(va[b]?).map (enc h w)=(vb[b]?).map (enc h w)):=ar;clear aq ar;by_cases y:a<O va
   ·have M:a<O vb:=by rw[<-ao.out];exact y
    obtain⟨N,aH,av,aZ,aI,X⟩:=V.nth (λx Y=>af.four _ _ (H x Y)) y;obtain⟨P,aJ,aw,a0,aK,Z⟩:=W.nth (λx Y=>af.four _ _ (K x Y)) M;have aa:va[a]∈va:=List.getElem_mem y;have ab:vb[a]∈vb:=List.getElem_mem M;obtain⟨f,i,j,k,l,m,al1,n,ad⟩:=af.cells _ (H _ aa);obtain⟨o,q,r,s,t,u,eI,v,ae⟩:=af.cells _ (K _ ab);have R:=H _ aa;have T:=K _ ab;rw[ad] at X R;rw[ae] at Z T;have aL:Hid ((va[a]?).map (enc h w)=some (enc h w (ai f i (J j k l) (J m al1 n)).toList)):=by show(va[a]?).map (enc h w)=_;rw[gG y,ad];rfl
    have aM:Hid ((vb[a]?).map (enc h w)=some (enc h w (ai o q (J r s t) (J u eI v)).toList)):=by show(vb[a]?).map (enc h w)=_;rw[gG M,ae];rfl
    clear ad ae aa ab;obtain⟨rfl,rfl⟩:aao=some ⟨N,0,I⟩/\ac=aH:=sU av;obtain⟨rfl,rfl⟩:bao=some ⟨P,0,I⟩/\bc=aJ:=sU aw;clear av aw;have a1:=c.size;have a2:N<E (U wr):=oM;have a3:P<E (U wr):=oM;have z:∀d,d<4->wr.cell? ⟨N,a*4+d,I⟩=(ai f i (J j k l) (J m al1 n))[d]? :=λd ag=>(c.cell (p:=⟨N,a*4+d,I⟩) aI).trans ((X d ag).trans sQ);have A:∀d,d<4->wr.cell? ⟨P,a*4+d,I⟩=(ai o q (J r s t) (J u eI v))[d]? :=λd ag=>(c.cell (p:=⟨P,a*4+d,I⟩) aK).trans ((Z d ag).trans sQ);clear X Z;have aN:=z 0 dC;have a4:=z 1 dC;have ah:=z 2 dC;have aj:=z 3 dC;have aO:=A 0 dC;have a5:=A 1 dC;have a6:=A 2 dC;have a7:=A 3 dC;clear z A;simp only[Nat.add_zero] at aN aO;have ax:(a:Int)<(O va:Int):=oM;have a8:(a:Int)<(O vb:Int):=oH M;have a9:(O va:Int)<=30000:=oM;have FA:Hid (enc h wr.drew (ai f i (J j k l) (J m al1 n)).toList=enc h w (ai f i (J j k l) (J m al1 n)).toList):=bj (al.below c.drew) c.size _ _ R h;have ay:Hid (enc h wr.drew (ai o q (J r s t) (J u eI v)).toList=enc h w (ai o q (J r s t) (J u eI v)).toList):=bj (al.below c.drew) c.size _ _ T h;have aP:Hid (af S G h wr.drew (ai f i (J j k l) (J m al1 n)).toList):=af.frame (al.below c.drew) c.size _ _ R;have aQ:Hid (af S' F h' wr.drew (ai o q (J r s t) (J u eI v)).toList):=af.frame (al.below c.drew) c.size _ _ T;clear R T V W H K;go_upto_region 6 with fail
    go_cut [25] (λaR aS=>∃B:Bool,aR=.bool (!B)/\(B=true↔(va[a]?).map (enc h w)=(vb[a]?).map (enc h w))/\Below (E (U w)) w aS)
    case first=>
     go_region_with (go_at_call 8;refine(aC.out aP.out aQ.out).mono ?_;rintro e a' ⟨aT,rfl,aU,aV⟩)
     all_goals
      go_wp2_with fail;go_meet;refine⟨aT,Q,?_,c.drew.trans (aV.mono c.size)⟩;rw[aL.out,aM.out];refine aU.trans ⟨λe=>?_,λe=>?_⟩
      ·have C:enc h wr.drew (ai f i (J j k l) (J m al1 n)).toList=enc h wr.drew (ai o q (J r s t) (J u eI v)).toList:=e;rw[FA.out,ay.out] at C;rw[C]
      ·have C:=Option.some.inj e;rw[<-FA.out,<-ay.out] at C;exact C
    case rest=>
     obtain⟨B,rfl,az,aA⟩:=hcut;have aB:Hid (B=true↔(va[a]?).map (enc h w)=(vb[a]?).map (enc h w)):=az;clear az
     cases B
     ·go_wp2_with fail;go_ret;refine⟨false,Q,⟨λe=>absurd e dC,λe=>?_⟩,aA⟩;have aj:=congrArg (λaW=>aW[a]?) e;simp only[List.getElem?_map] at aj;exact absurd (aB.out.2 aj) sQ
     ·go_wp2_with fail;go_roundg (O va - (a+1))
      case measure=>rw[aG.out];omega
      case rel=>
       refine⟨a+1,Q,by go_num,y,λb ap=>?_,aA⟩;rcases Nat.lt_or_ge b a with D|D
       ·exact au.out b D
       ·obtain rfl:b=a:=oM;exact aB.out.1 (by first|rfl|trivial)
   ·have ax:¬(a:Int)<(O va:Int):=oM;have ba:decide ((a:Int)<(O va:Int))=false:=sU ax;go_wp2_with fail;go_ret;refine⟨true,Q,⟨λ_=>?_,λ_=>rfl⟩,c⟩;apply List.ext_getElem?
    intro b;rw[List.getElem?_map,List.getElem?_map];rcases Nat.lt_or_ge b a with D|D
    ·exact au.out b D
    ·have bb:=ao.out;rw[List.getElem?_eq_none oM,List.getElem?_eq_none oM]
 ·have aD:((O va:Int) !=(O vb:Int))=true:=by simp;omega
  go_enter Tryz.func16,Tryz.ntmps16
  go_wp2_with fail;go_ret;refine⟨false,Q,⟨λe=>absurd e dC,λe=>?_⟩,Below.refl _ _⟩;have ah:=congrArg List.length e;simp at ah;exact absurd ah L
theorem oh:(a b:List Int)->aC a=aC b->a=b
 |[],[],_=>rfl
 |[],_::_,e=>by simp[aC] at e
 |_::_,[],e=>by simp[aC] at e
 |x::a,y::b,e=>by
  have c:Value.int .i64 x::aC a=Value.int .i64 y::aC b:=e;simp only[List.cons.injEq,Value.int.injEq,true_and] at c;rw[c.1,oh a b c.2]
theorem vA {G i:Int->Int->Nat->Nat->Prop} {f:Nat} {ka na kb nb:Int} {la d lb e:Value} {b c:List Int} (j:ro w S 1 la (O b) (aC b)) (k:ro w S 4 d (O va) va.flatten) (l:∀x∈va,af S G h w x) (m:ro w S' 1 lb (O c) (aC c)) (n:ro w S' 4 e (O vb) vb.flatten) (o:∀x∈vb,af S' i h' w x):
 enc (f+1) w (ai ka na la d).toList=enc (f+1) w (ai kb nb lb e).toList↔ka=kb/\na=nb/\b=c/\va.map (enc f w)=vb.map (enc f w):=by
 rw[fU j k l,fU m n o];constructor
 ·intro a;simp only[Value.agg.injEq,Array.mk.injEq,List.cons.injEq,Value.int.injEq,and_true,true_and] at a;exact⟨a.1.1,a.1.2,oh _ _ a.2.1,a.2.2⟩
 ·rintro⟨rfl,rfl,rfl,a⟩;rw[a]
theorem lI {G P:Int->Int->Nat->Nat->Prop} (R:nH S S' G P h h'):nH S S' G P (h+1) (h'+1):=by
 intro w d e r s l t aao bao m n u v an ac bn bc T V;obtain⟨D,va,F,H,W,X,ae,z⟩:=T.parts;obtain⟨K,vb,L,o,ag,ah,aj,A⟩:=V.parts;have x:Hid (enc (h+1) w (ai d e (J l m n) (J aao an ac)).toList=enc (h+1) w (ai r s (J t u v) (J bao bn bc)).toList↔d=r/\e=s/\D=K/\va.map (enc h w)=vb.map (enc h w)):=vA (f:=h) F H z L o A;have y:Below (E (U w)) w ((w.alloc (Ob (ai d e (J l m n) (J aao an ac)) 39)).alloc (Ob (ai r s (J t u v) (J bao bn bc)) 39)):=bV w _ _;have ak:Hid (∀i,Below (E (U w)) w i->Calls Tryz.prog 15 #[J l m n,J t u v] i (fB i (D=K))):=λi a=>o5 (F.frame (al.below a) a.size) (L.frame (al.below a) a.size) W
 have ao:Hid (∀i,Below (E (U w)) w i->Calls Tryz.prog 16 #[J aao an ac,J bao bn bc] i (fB i (va.map (enc h w)=vb.map (enc h w)))):=λi a=>by
  have:=nL R (H.frame (al.below a) a.size) (o.frame (al.below a) a.size) (λj k=>af.frame (al.below a) a.size _ _ (z j k)) (λj k=>af.frame (al.below a) a.size _ _ (A j k)) X;rwa [List.map_congr_left (λj k=>bj (al.below a) a.size _ _ (z j k) h),List.map_congr_left (λj k=>bj (al.below a) a.size _ _ (A j k) h)] at this
 clear F H W X ae z L o ag ah aj A T V R;by_cases M:d=r
 ·subst M;by_cases N:e=s
  ·subst N;go_enter Tryz.func8,Tryz.ntmps8
   go_wp2_with fail;refine(ak.out _ y).mono ?_;rintro b q ⟨Y,rfl,Z,B⟩;have aa:Hid (Y=true↔D=K):=Z;clear Z;have C:Below (E (U w)) w q:=y.trans (B.mono y.size);have ar:∀c,q.cell? ⟨E (U w),c,I⟩=(ai d e (J l m n) (J aao an ac))[c]? :=λc=>(B.cell (p:=⟨E (U w),c,I⟩) (by simp;omega)).trans (by rw[World.cell?_of_block (w:=w.alloc (Ob (ai d e (J l m n) (J aao an ac)) 39)) (Below.heap_alloc _ _ _ sQ),cell_of_row _ _ c _ 39 (0,0) (heap_alloc_new _ _)]);have au:∀c,q.cell? ⟨E (U w)+1,c,I⟩=(ai d e (J t u v) (J bao bn bc))[c]? :=λc=>(B.cell (p:=⟨E (U w)+1,c,I⟩) (by first|(simp;done)|(simp;omega))).trans (by have:=cell_of_row _ _ c _ 39 (0,0) (heap_alloc_new (w.alloc (Ob (ai d e (J l m n) (J aao an ac)) 39)) (Ob (ai d e (J t u v) (J bao bn bc)) 39));first|(simp;done)|(simpa using this));have ap:=B.size;have av:E (U w)+2<=E (U q):=sU ap;have aw:E (U w)<E (U q):=oM;have ax:E (U w)+1<E (U q):=oM
   cases Y
   ·go_wp2_with fail;go_ret;exact⟨false,Q,⟨λb=>absurd b dC,λb=>absurd (aa.out.2 (x.out.1 b).2.2.1) sQ⟩,C⟩
   ·go_wp2_with fail;refine(ao.out _ C).mono ?_;rintro b ay ⟨o,rfl,ab,aq⟩;have ad:Hid (o=true↔va.map (enc h w)=vb.map (enc h w)):=ab;clear ab;go_wp2_with fail;go_ret;refine⟨o,Q,⟨λb=>x.out.2 ⟨by first|rfl|trivial,by first|rfl|trivial,aa.out.1 (by first|rfl|trivial),ad.out.1 b⟩,λb=>ad.out.2 (x.out.1 b).2.2.2⟩,C.trans (aq.mono C.size)⟩
  ·have az:(e==s)=false:=sU N;go_enter Tryz.func8,Tryz.ntmps8
   go_wp2_with fail;go_ret;exact⟨false,Q,⟨λb=>absurd b dC,λb=>absurd (x.out.1 b).2.1 N⟩,y⟩
 ·have aA:(d==r)=false:=sU M;go_enter Tryz.func8,Tryz.ntmps8
  go_wp2_with fail;go_ret;exact⟨false,Q,⟨λb=>absurd b dC,λb=>absurd (x.out.1 b).1 M⟩,y⟩
theorem lS {G c:Int->Int->Nat->Nat->Prop}:(h h':Nat)->nH S S' G c h h'
 |0,_=>λa _=>absurd a (λb=>b)
 |_+1,0=>λ_ a=>absurd a (λb=>b)
 |h+1,h'+1=>lI (lS h h')
end
section
variable{fn:Func} {kind n:Int} {es:List Value} {B b f r:Nat} {S:Nat->Prop} {W w:World}
def vO (m:Nat):List Value->Bool
 |.int _ k::.int _ n::_=>k==5&&(decide (0<=n)&&decide (n<(m:Int)))
 |_=>false
def xO:List Value->Nat
 |_::.int _ n::_=>n.toNat
 |_=>0
def bX:Nat->World->List Value->List Value->Value
 |0,_,_,_=>undef
 |h+1,w,es,cs=>if vO (O es) cs then(es[xO cs]?).getD undef else .agg #[.agg (cs.take 2).toArray,.agg (rowAt w 1 (xP cs)).flatten.toArray,.agg ((rowAt w 4 (uP cs)).map (bX h w es)).toArray]
section
variable{S:Nat->Prop} {G:Int->Int->Nat->Nat->Prop} {w w':World}
theorem fK {h:Nat} {lv a:Value} {ls:List Int} {vs:VV} (d:vO (O es) (ai kind n lv a).toList=false) (e:ro w S 1 lv (O ls) (aC ls)) (i:ro w S 4 a (O vs) vs.flatten) (j:∀x∈vs,af S G h w x):bX (f+1) w es (ai kind n lv a).toList=.agg #[.agg #[vN kind,vN n],.agg (aC ls).toArray,.agg (vs.map (bX f w es)).toArray]:=by
 have k:=kH e;have l:=gY i (λx m=>af.four h x (j x m));unfold bX;rw[if_neg (by rw[d];decide)];show Value.agg #[_,.agg (rowAt w 1 lv).flatten.toArray,.agg ((rowAt w 4 a).map (bX f w es)).toArray]=_;rw[k,l,iF];rfl
theorem jY {cs:List Value} (a:vO (O es) cs=true):bX (f+1) w es cs=(es[xO cs]?).getD undef:=by
 unfold bX;rw[if_pos a]
theorem eU (d:al S w w') (e:E (U w)<=E (U w')) (es:List Value):(h:Nat)->(cs:List Value)->af S G h w cs->∀f,bX f w' es cs=bX f w es cs
 |0,_,hn,_=>absurd hn (λa=>a)
 |_+1,_,_,0=>rfl
 |h+1,_,⟨kind,n,lv,av,ls,vs,h1,h2,h3,h4,h5,h6,h7⟩,f+1=>by
  subst h1
  cases i:vO (O es) (ai kind n lv av).toList
  ·rw[fK i h2 h3 h7,fK (G:=G) i (h2.frame d e) (h3.frame d e) (λa j=>af.frame d e h a (h7 a j))];have:vs.map (bX f w' es)=vs.map (bX f w es):=List.map_congr_left (λa j=>eU d e es h a (h7 a j) f);rw[this]
  ·rw[jY i,jY i]
theorem vz (cs:List Value):vO 0 cs=false:=by
 unfold vO;split
 ·rename_i d n _
  by_cases a:0<=n
  ·have:¬n<((0:Nat):Int):=oM;simp[this]
  ·simp[a]
 ·rfl
theorem nF:(h:Nat)->(cs:List Value)->af S G h w cs->∀f,bX f w [] cs=enc f w cs
 |0,_,hn,_=>absurd hn (λa=>a)
 |_+1,_,_,0=>rfl
 |h+1,_,⟨kind,n,lv,av,ls,vs,h1,h2,h3,h4,h5,h6,h7⟩,f+1=>by
  subst h1;rw[fK (es:=[]) (vz _) h2 h3 h7,fU h2 h3 h7];have:vs.map (bX f w [])=vs.map (enc f w):=List.map_congr_left (λa d=>nF h a (h7 a d) f);rw[this]
end
abbrev dF:Array Value:=ai 0 0 (J I 0 0) (J I 0 0)
theorem jD:(Tryz.prog.info? 39).map (λa=>(a.zero,a.size,a.bytes))=some (some (.agg dF),4,64):=by kernel_rfl
def aN (w:World) (b:Nat) (c:Array Value):Prop:=w.heap[b]? =some (Ob c 39 (0,0))
section
variable{w w':World} {b:Nat} {c:Array Value}
theorem aN.cell (h:aN w b c) (o:Nat):w.cell? ⟨b,o,I⟩=c[o]? :=cell_of_row w b o c 39 (0,0) h
theorem aN.fz (h:aN w b c) (o:Nat):w.frozen? ⟨b,o,I⟩=false:=frozen_of_row w b o c 39 h
theorem aN.lt (h:aN w b c):b<E (U w):=(gE h).1
theorem aN.at {ad:Nat} (w:World) (c:Array Value) (h:ad=E (U w)):aN (w.alloc (Ob c 39)) ad c:=h▸heap_alloc_new w _
theorem aN.alloc (h:aN w b c) (o:Obj):aN (w.alloc o) b c:=(Below.heap_alloc _ _ _ h.lt).trans h
theorem aN.below (h:aN w b c) (a:Below B w w') (hl:b<B):aN w' b c:=(a.block b hl).trans h
theorem aN.drew (h:aN w b c):aN w.drew b c:=h
theorem aN.grown {a:Option Nat} (h:aN w b c) (d:w.grownBy w' a) (e:some b≠a):aN w' b c:=(d.block b h.lt e).trans h
theorem aN.other (h:aN w b c) {p:Addr} (a:b≠p.block) (u:Value):aN (w.setCell p u) b c:=(Below.heap_setCell _ _ _ _ a).trans h
theorem aN.set (h:aN w b c) (o:Nat) (u:Value):aN (w.setCell ⟨b,o,I⟩ u) b (c.setIfInBounds o u):=heap_setCell_same w b o c 39 u h
end
abbrev bQ (w:World) (b:Nat) (c0 c1 c2 c3:Value):World:=(((w.setCell ⟨b,0,I⟩ c0).setCell ⟨b,1,I⟩ c1).setCell ⟨b,2,I⟩ c2).setCell ⟨b,3,I⟩ c3
theorem aN.bQ {i e d a:Value} (h:aN w b #[i,e,d,a]) (c0 c1 c2 c3:Value):aN (Go.Proofs.YtcnnibahjmekdaaGreat.bQ w b c0 c1 c2 c3) b #[c0,c1,c2,c3]:=by
 have j:aN (w.setCell ⟨b,0,I⟩ c0) b #[c0,e,d,a]:=h.set 0 c0;have k:aN ((w.setCell ⟨b,0,I⟩ c0).setCell ⟨b,1,I⟩ c1) b #[c0,c1,d,a]:=j.set 1 c1;have l:aN (((w.setCell ⟨b,0,I⟩ c0).setCell ⟨b,1,I⟩ c1).setCell ⟨b,2,I⟩ c2) b #[c0,c1,c2,a]:=k.set 2 c2;exact l.set 3 c3
theorem Below.bQ {a:World} (h:Below B a w) (d:B<=b) (c0 c1 c2 c3:Value):Below B a (Go.Proofs.YtcnnibahjmekdaaGreat.bQ w b c0 c1 c2 c3):=
 Below.setCell (p:=⟨b,3,I⟩) (Below.setCell (p:=⟨b,2,I⟩) (Below.setCell (p:=⟨b,1,I⟩) (Below.setCell (p:=⟨b,0,I⟩) h d _) d _) d _) d _
theorem al.bQ (h:¬S b) (c0 c1 c2 c3:Value):al S w (Go.Proofs.YtcnnibahjmekdaaGreat.bQ w b c0 c1 c2 c3):=
 ((((al.setCell w ⟨b,0,I⟩ c0 h).trans (al.setCell _ ⟨b,1,I⟩ c1 h) sQ).trans (al.setCell _ ⟨b,2,I⟩ c2 h) sQ).trans (al.setCell _ ⟨b,3,I⟩ c3 h) sQ)
theorem dQ (d:fn.results=#[.cell r 39]) {a:Array Value} (e:a.getD r undef=.pointer (aS b)) {c0 c1 c2 c3:Value} (i:aN W b #[c0,c1,c2,c3]):
 (results fn a).run Tryz.prog W=.ok (.agg #[c0,c1,c2,c3]) W:=by
 have j:=i.cell;have k:a[r]?.getD undef=.pointer (aS b):=sU e;simp[results,d,k,go_sem,j]
def cy (w:World) (S:Nat->Prop) (G:Int->Int->Nat->Nat->Prop) (H:Nat) (Ez:Value) (e:Ending) (w':World):Prop:=
 ∃(kind n:Int) (aw:OA) (ln lc:Nat) (aao:OA) (an ac:Nat),e=.returned (.agg (ai kind n (J aw ln lc) (J aao an ac)))/\af (λb=>S b\/E (U w)<=b) G H w' (ai kind n (J aw ln lc) (J aao an ac)).toList/\enc H w' (ai kind n (J aw ln lc) (J aao an ac)).toList=Ez/\Below (E (U w)) w w'
theorem kI (t:fn.results=#[.cell r 39]) {l:Act} (u:l.defers=[]) {z:Nat} (v:l.tmps.getD r undef=.pointer (aS z)) (x:aN W z dF) (y:E (U w)<=z) (m:Below (E (U w)) w W) {G:Int->Int->Nat->Nat->Prop} {H:Nat} {o:Value}
 {a:OA} {d e:Nat} {i:OA} {j k:Nat} (p:af (λb=>(S b\/E (U w)<=b)/\b≠z) G H W (ai kind n (J a d e) (J i j k)).toList) (A:enc H W (ai kind n (J a d e) (J i j k)).toList=o):
  bodyPost Tryz.prog fn (cy w S G H o) .ret l (bQ W z (vN kind) (vN n) (J a d e) (J i j k)):=by
  have q:al (λb=>(S b\/E (U w)<=b)/\b≠z) W (bQ W z (vN kind) (vN n) (J a d e) (J i j k)):=al.bQ (λC=>C.2 Q) _ _ _ _;have s:E (U W)<=E (U (bQ W z (vN kind) (vN n) (J a d e) (J i j k))):=sQ;refine bodyPost_ret (dQ t v (aN.bQ x _ _ _ _)) u ⟨kind,n,a,d,e,i,j,k,Q,af.weaken (λb m _=>m.1) _ _ (af.frame q s _ _ p),?_,Below.bQ m y _ _ _ _⟩;rw[bj q s _ _ p,A]
end
section
def dS (w:World) (S:Nat->Prop) (o z:Nat) (kv:Value) (b:Nat):Prop:=(S b/\b<E (U w)\/E (U w)<=b)/\b≠o/\b≠z/\kv.ownBlock≠some b
structure TL (w:World) (S:Nat->Prop) (G:Int->Int->Nat->Nat->Prop) (H o z:Nat) (c:Array Value) (wr:World) (kv:Value) (vs:VV):Prop where
 below:Below (E (U w)) w wr
 ob:aN wr o c
 zb:aN wr z dF
 lo:E (U w)<=o
 lz:E (U w)<=z
 ne:o≠z
 row:wr.ownsRow (E (U w)) 39 4 kv (O vs) vs.flatten
 ef:∀b,kv.ownBlock=some b->b≠o/\b≠z
 all:∀x∈vs,af (dS w S o z kv) G H wr x
section
variable{w wr w':World} {S:Nat->Prop} {G:Int->Int->Nat->Nat->Prop} {H o z:Nat} {c:Array Value} {kv:Value} {vs:VV}
theorem TL.step (q:TL w S G H o z c wr kv vs) (a:Below (E (U wr)) wr w'):TL w S G H o z c w' kv vs:=
 ⟨q.below.trans (a.mono q.below.size),q.ob.below a q.ob.lt,q.zb.below a q.zb.lt,q.lo,q.lz,q.ne,ag q.row (λb _ d=>a.block b d),q.ef,λe f=>af.frame (al.below a) a.size _ _ (q.all e f)⟩
theorem TL.oq (q:TL w S G H o z c wr kv vs) (a:Below (E (U wr)) wr w'):vs.map (enc H w')=vs.map (enc H wr):=List.map_congr_left (λb d=>bj (al.below a) a.size _ _ (q.all b d) H)
theorem TL.put (q:TL w S G H o z c wr kv vs) (i:Nat) (u:Value):TL w S G H o z (c.setIfInBounds i u) (wr.setCell ⟨o,i,I⟩ u) kv vs/\vs.map (enc H (wr.setCell ⟨o,i,I⟩ u))=vs.map (enc H wr):=by
 have e:al (dS w S o z kv) wr (wr.setCell ⟨o,i,I⟩ u):=al.setCell _ ⟨o,i,I⟩ _ (λa=>a.2.1 Q);have f:E (U wr)<=E (U (wr.setCell ⟨o,i,I⟩ u)):=sQ;exact⟨⟨q.below.setCell (p:=⟨o,i,I⟩) q.lo u,q.ob.set i u,q.zb.other (p:=⟨o,i,I⟩) (λb=>q.ne b.symm) u,q.lo,q.lz,q.ne,ag q.row (λj k _=>Below.heap_setCell _ _ _ _ (λb=>(q.ef j k).1 b)),q.ef,λa d=>af.frame e f _ _ (q.all a d)⟩,List.map_congr_left (λa d=>bj e f _ _ (q.all a d) H)⟩
theorem jS (w:World) (kind n:Int) (lv b:Value) (t:TypeId):∀a d,(ai kind n lv b).toList[a]? =some d->(w.alloc (Ob (ai kind n lv b) t)).cell? ((⟨E (U w),0,I⟩:Addr).add a)=some d:=by
 intro a d e;have f:(⟨E (U w),0,I⟩:Addr).add a=⟨E (U w),a,I⟩:=by unfold Addr.add;split<;>simp_all
 rw[f,cell_of_row _ (E (U w)) a (ai kind n lv b) t (0,0) (heap_alloc_new w _)];simpa using e
theorem TL.run (q:TL w S G H o z c wr kv vs) {kind n:Int} {a:OA} {b d:Nat} {e:OA} {f i:Nat} (x:af (dS w S o z kv) G H wr (ai kind n (J a b d) (J e f i)).toList) (au:O vs<=30000) (D:TypeId) {ad:Nat} (V:ad=E (U wr)):
 ∃A w',(Builtin.append_ #[36,36] D #[kv,J (aS ad) 1 1]).run Tryz.prog (wr.alloc (Ob (ai kind n (J a b d) (J e f i)) 39))=.ok A w'/\∃t u,A=J t (O vs+1) u/\TL w S G H o z c w' (J t (O vs+1) u) (vs++[(ai kind n (J a b d) (J e f i)).toList])/\
  (vs++[(ai kind n (J a b d) (J e f i)).toList]).map (enc H w')=vs.map (enc H wr)++[enc H wr (ai kind n (J a b d) (J e f i)).toList]:=by
 subst V;obtain⟨W,X,Y,Z,aa⟩:=info_parts jD;have v:Below (E (U wr)) wr (wr.alloc (Ob (ai kind n (J a b d) (J e f i)) 39)):=(Below.refl _ _).alloc (lR _) _;have p:=q.step v;have ab:=af.frame (al.below v) v.size _ _ x
 have one:∀F∈(ai kind n (J a b d) (J e f i)).toList,F.oneCell'=true:=by
  intro F x;simp at x;rcases x with rfl|rfl|rfl|rfl<;>rfl
 obtain⟨A,w',ac,K,r,_,L⟩:=run_append_own_at (P:=Tryz.prog) (wr.alloc (Ob (ai kind n (J a b d) (J e f i)) 39)) (E (U w)) 36 D 39 W _ 4 64 Tryz.underlying36 X Y Z aa Q dC kv (O vs) vs.flatten p.row ⟨E (U wr),0,I⟩ 1 1 (ai kind n (J a b d) (J e f i)).toList Q (jS _ _ _ _ _ _) one (by unfold maxLen;omega) oM p.below.size
 have ae:∃t u,A=J t (O vs+1) u:=by
  rcases K.2 with⟨M,av⟩|⟨j,y,zz,M,_⟩
  ·omega
  ·exact⟨_,_,M⟩
 obtain⟨t,u,rfl⟩:=ae;have N:∀(h:Nat) (j:List Value) (S:Nat->Prop),af S G h (wr.alloc (Ob (ai kind n (J a b d) (J e f i)) 39)) j->af (λk=>S k/\k<E (U (wr.alloc (Ob (ai kind n (J a b d) (J e f i)) 39)))) G h (wr.alloc (Ob (ai kind n (J a b d) (J e f i)) 39)) j:=λh j S l=>af.weaken (λk s B=>⟨s,B⟩) _ _ l;have R:al (λk=>dS w S o z kv k/\k<E (U (wr.alloc (Ob (ai kind n (J a b d) (J e f i)) 39)))) (wr.alloc (Ob (ai kind n (J a b d) (J e f i)) 39)) w':=al.grown r (λk m s=>s.1.2.2.2 m)
 have ag:∀k,dS w S o z kv k/\k<E (U (wr.alloc (Ob (ai kind n (J a b d) (J e f i)) 39)))->dS w S o z (J t (O vs+1) u) k:=by
  rintro k ⟨⟨ah,aj,ak,ao⟩,B⟩;refine⟨ah,aj,ak,?_⟩;rcases L with m|m
  ·rw[m];exact ao
  ·rw[m];intro ap;simp at ap B;omega
 have T:∀j∈vs++[(ai kind n (J a b d) (J e f i)).toList],af (dS w S o z kv) G H (wr.alloc (Ob (ai kind n (J a b d) (J e f i)) 39)) j:=by
  intro j l;rcases List.mem_append.1 l with l|l
  ·exact p.all j l
  ·obtain rfl:j=_:=sU l;exact ab
 refine⟨_,w',ac,t,u,Q,⟨?_,p.ob.grown r (λm=>(q.ef o m.symm).1 Q),p.zb.grown r (λm=>(q.ef z m.symm).2 Q),q.lo,q.lz,q.ne,sU K,?_,λj l=>af.weaken (λk s _=>ag k s) _ _ (af.frame R r.size _ _ (N _ _ _ (T j l)))⟩,?_⟩
 ·exact⟨r.os.trans p.below.os,r.tape.trans p.below.tape,r.output.trans p.below.output,lT p.below.size r.size,λC aq=>(r.block C (oH p.below.size) (λm=>oH (q.row.lt C m.symm).1)).trans (p.below.block C aq)⟩
 ·intro k s;rcases L with m|m
  ·exact q.ef k (by rw[<-m];exact s)
  ·rw[m] at s;have aw:=q.ob.lt;have ax:=q.zb.lt;simp at s;omega
 ·have ar:∀j∈vs++[(ai kind n (J a b d) (J e f i)).toList],enc H w' j=enc H wr j:=λj l=>(bj R r.size _ _ (N _ _ _ (T j l)) H).trans (by
   rcases List.mem_append.1 l with l|l
   ·exact bj (al.below v) v.size _ _ (q.all j l) H
   ·obtain rfl:j=_:=sU l;exact bj (al.below v) v.size _ _ x H)
  rw[List.map_congr_left ar,List.map_append];rfl
end
theorem iz {W:World} {e:Array Oper} {o:Oper} {a:Act} {K:Act->World->Prop} {f:Exit->Act->World->Prop} {i:Prop} (j:o.guard=I) {s x:Operand} (k:o.op=.call {callee:=.builtin .append,args:=#[s,x],argTypes:=#[36,36]}) {v xv:Value} (l:a.eval s=v) (m:a.eval x=xv) {R:Value->World->Prop}
 (d:∃b w',(Builtin.append_ #[36,36] o.type #[v,xv]).run Tryz.prog W=.ok b w'/\R b w') (h:∀b w',R b w'->K (a.put o.dst b) w'):if Region.wanted o (yielded e a.tmps)=true then Oper.wp Tryz.prog o a W K f else i:=by
  have n:Region.wanted o (yielded e a.tmps)=true:=by simp[Region.wanted,j]
  rw[if_pos n];obtain⟨b,w',d,p⟩:=d;unfold Oper.wp execOp;simp only[k,resolve,invoke,builtin,Sem.run_bind,Sem.run_pure,Result.andThen_ok,List.map_toArray,List.map_cons,List.map_nil,l,m,d];exact h b w' p
end
section
variable{kind n:Int} {H ac an h lc ln m:Nat} {S:Nat->Prop} {aao aw:OA} {av lv:Value} {W w:World}
def sC (F:Nat) (G:Int->Int->Nat->Nat->Prop) (hw h:Nat):Prop:=∀{S:Nat->Prop} {w:World} {kind n:Int} {aw:OA} {ln lc:Nat} {aao:OA} {an ac:Nat} {wo:OA} {wn wc:Nat} {ws:VV},af S G h w (ai kind n (J aw ln lc) (J aao an ac)).toList->ro w (λ_=>True) 4 (J wo wn wc) (O ws) ws.flatten->(∀x∈ws,af S G hw w x)->
 Calls Tryz.prog F #[.agg (ai kind n (J aw ln lc) (J aao an ac)),J wo wn wc] w (cy w S G (h+hw) (bX h w (ws.map (enc hw w)) (ai kind n (J aw ln lc) (J aao an ac)).toList))
theorem mz {c:Func} {r:Nat} (e:c.results=#[.cell r 39]) {a:Act} (f:a.defers=[]) {z:Nat} (i:a.tmps.getD r undef=.pointer (aS z)) {G:Int->Int->Nat->Nat->Prop} {d:Value}
 (j:aN W z (ai kind n (J aw ln lc) (J aao an ac))) (k:Below (E (U w)) w W) (l:af (λb=>S b\/E (U w)<=b) G H W (ai kind n (J aw ln lc) (J aao an ac)).toList) (o:enc H W (ai kind n (J aw ln lc) (J aao an ac)).toList=d):
  bodyPost Tryz.prog c (cy w S G H d) .ret a W:=
  bodyPost_ret (dQ e i j) f ⟨kind,n,aw,ln,lc,aao,an,ac,Q,l,o,k⟩
theorem pA {G:Int->Int->Nat->Nat->Prop} {cs:List Value} (c:af S G h w cs) (a:Below (E (U w)) w W) (d:h<=H):af (λb=>S b\/E (U w)<=b) G H W cs/\enc H W cs=enc h w cs:=by
 have e:=af.frame (al.below a) a.size _ _ c;refine⟨af.le (af.weaken (λb f _=>.inl f) _ _ e) _ d,?_⟩;rw[lh _ _ e H d,bj (al.below a) a.size _ _ c]
theorem ql (a:kind=5) (b:0<=n) (c:n<(m:Int)):vO m (ai kind n lv av).toList=true:=by
 show(kind==5&&(decide (0<=n)&&decide (n<(m:Int))))=true;simp[a,b,c]
theorem kW (h:¬(kind=5/\0<=n/\n<(m:Int))):vO m (ai kind n lv av).toList=false:=by
 show(kind==5&&(decide (0<=n)&&decide (n<(m:Int))))=false;by_cases a:kind=5
 ·by_cases b:0<=n
  ·have c:¬n<(m:Int):=λd=>h ⟨a,b,d⟩;simp[c]
  ·simp[b]
 ·simp[a]
theorem oY {G:Int->Int->Nat->Nat->Prop} {hw:Nat} (M:∀k n nl na,G k n nl na->k=5->na=0) {wo:OA} {wn wc:Nat} {ws:VV} (f:af S G (h+1) w (ai 5 n (J aw ln lc) (J aao an ac)).toList) (i:ro w (λ_=>True) 4 (J wo wn wc) (O ws) ws.flatten) (b:∀x∈ws,af S G hw w x):
 Calls Tryz.prog 7 #[.agg (ai 5 n (J aw ln lc) (J aao an ac)),J wo wn wc] w (cy w S G (h+1+hw) (bX (h+1) w (ws.map (enc hw w)) (ai 5 n (J aw ln lc) (J aao an ac)).toList)):=by
 obtain rfl:=i.len;by_cases N:0<=n/\n<(O ws:Int)
 ·obtain⟨m,rfl⟩:∃m:Nat,n=(m:Int):=⟨n.toNat,oM⟩;have o:m<O ws:=oM;obtain⟨g,P,c,hS,ag,a⟩:=i.nth (λx R=>af.four _ _ (b x R)) o;obtain⟨rfl,rfl⟩:wo=some ⟨g,0,I⟩/\wc=P:=sU c;have p:ws[m]∈ws:=List.getElem_mem o;obtain⟨q,r,s,t,u,v,al1,y,z⟩:=af.cells _ (b _ p);have A:=b _ p;rw[z] at a A;have F:=a 0 dC;have T:=a 1 dC;have V:=a 2 dC;have X:=a 3 dC;simp only[Nat.add_zero] at F;simp at F T V X;have Y:(m:Int)<(O ws:Int):=oM
  have j:Hid (bX (h+1) w (ws.map (enc hw w)) (ai 5 (m:Int) (J aw ln lc) (J aao an ac)).toList=enc hw w (ai q r (J s t u) (J v al1 y)).toList):=by
   show bX (h+1) w (ws.map (enc hw w)) (ai 5 (m:Int) (J aw ln lc) (J aao an ac)).toList=_;rw[jY (ql Q oM (sU Y))];show((ws.map (enc hw w))[((m:Nat):Int).toNat]?).getD undef=_;rw[Int.toNat_natCast,List.getElem?_map,gG o,z];rfl
  have l:Hid (af S G hw w (ai q r (J s t u) (J v al1 y)).toList):=A;clear A z p a c f i b;go_enter Tryz.func7,Tryz.ntmps7
  go_wp2_with fail;go_light;obtain⟨d,e⟩:=pA (H:=h+1+hw) l.out (bV w (Ob (ai 5 (m:Int) (J aw ln lc) (J aao an ac)) 39) (Ob (ai q r (J s t u) (J v al1 y)) 39)) oM;exact mz Tryz.results7 Q Q (aN.at _ _ sQ) (bV w _ _) d (e.trans j.out.symm)
 ·obtain⟨ah,Z,B,C,aa,ab,K,D⟩:=f.parts;have L:Z=[]:=List.eq_nil_of_length_eq_zero (M _ _ _ _ K Q)
  have j:Hid (bX (h+1) w (ws.map (enc hw w)) (ai 5 n (J aw ln lc) (J aao an ac)).toList=enc (h+1) w (ai 5 n (J aw ln lc) (J aao an ac)).toList):=by
   show bX (h+1) w (ws.map (enc hw w)) (ai 5 n (J aw ln lc) (J aao an ac)).toList=_;rw[fK (kW (λc=>N ⟨c.2.1,sU c.2.2⟩)) B C D,fU B C D,L];rfl
  have l:Hid (af S G (h+1) w (ai 5 n (J aw ln lc) (J aao an ac)).toList):=f;clear B C aa ab K D f i b L;by_cases ad:0<=n
  ·have ae:decide (n<(O ws:Int))=false:=by simp;omega
   go_enter Tryz.func7,Tryz.ntmps7
   go_wp2_with fail;go_light;obtain⟨d,e⟩:=pA (H:=h+1+hw) l.out (bV w (Ob (ai 5 n (J aw ln lc) (J aao an ac)) 39) (Ob (ai 5 n (J aw ln lc) (J aao an ac)) 39)) oM;exact mz Tryz.results7 Q Q (aN.at _ _ sQ) (bV w _ _) d (e.trans j.out.symm)
  ·have ae:decide (0<=n)=false:=sU ad;go_enter Tryz.func7,Tryz.ntmps7
   go_wp2_with fail;go_light;obtain⟨d,e⟩:=pA (H:=h+1+hw) l.out (bV w (Ob (ai 5 n (J aw ln lc) (J aao an ac)) 39) (Ob (ai 5 n (J aw ln lc) (J aao an ac)) 39)) oM;exact mz Tryz.results7 Q Q (aN.at _ _ sQ) (bV w _ _) d (e.trans j.out.symm)
end
section
variable{kind n:Int} {lc ln:Nat} {S:Nat->Prop} {aw:OA} {w:World}
section
variable{w wr w':World} {S:Nat->Prop} {G:Int->Int->Nat->Nat->Prop} {H o z:Nat} {c:Array Value} {kv:Value} {vs:VV}
theorem mC (q:TL w S G H o z c wr kv vs) {cs:List Value} (e:af (λb=>(S b/\b<E (U w))\/E (U wr)<=b) G H w' cs):af (dS w S o z kv) G H w' cs:=by
 refine af.weaken (λb a _=>?_) _ _ e;have f:=q.ob.lt;have i:=q.zb.lt;have j:=q.lo;have k:=q.lz;have l:=q.below.size;rcases a with a|a
 ·exact⟨.inl a,oM,oM,λd=>oH (q.row.lt b d).1⟩
 ·exact⟨.inr oM,oM,oM,λd=>oH (q.row.lt b d).2⟩
theorem vn {ls:List Int} (q:TL w S G H o z c wr kv vs) (hl:ro w S 1 (J aw ln lc) (O ls) (aC ls)) (k:G kind n (O ls) (O vs)) (l:O ls<=30000) (m:O vs<=30000):
 af (λa=>(S a\/E (U w)<=a)/\a≠z) G (H+1) wr (ai kind n (J aw ln lc) kv).toList/\enc (H+1) wr (ai kind n (J aw ln lc) kv).toList=.agg #[.agg #[vN kind,vN n],.agg (aC ls).toArray,.agg (vs.map (enc H wr)).toArray]:=by
 have f:ro wr (λa=>(S a\/E (U w)<=a)/\a≠z) 1 (J aw ln lc) (O ls) (aC ls):=by
  have p:ro w (λa=>(S a\/E (U w)<=a)/\a≠z) 1 (J aw ln lc) (O ls) (aC ls):=hl.weaken (λa b s=>⟨.inl b,oH q.lz⟩);exact p.frame (al.below q.below) q.below.size
 have i:ro wr (λa=>(S a\/E (U w)<=a)/\a≠z) 4 kv (O vs) vs.flatten:=ro.bJ q.row (λa b=>⟨.inr (q.row.lt a b).1,(q.ef a b).2⟩);have j:∀d∈vs,af (λa=>(S a\/E (U w)<=a)/\a≠z) G H wr d:=λd r=>af.weaken (λa b _=>⟨b.1.imp (λe=>e.1) (λe=>e),b.2.2.1⟩) _ _ (q.all d r);exact⟨⟨kind,n,_,_,ls,vs,Q,f,i,l,m,k,j⟩,fU f i j⟩
end
theorem nE {G:Int->Int->Nat->Nat->Prop} {hw h:Nat} (aH:sC 7 G hw h) (aI:kind≠5) {y:OA} {T C:Nat} {wo:OA} {wn wc:Nat} {ws:VV} (aJ:af S G (h+1) w (ai kind n (J aw ln lc) (J y T C)).toList) (aK:ro w (λ_=>True) 4 (J wo wn wc) (O ws) ws.flatten) (aL:∀x∈ws,af S G hw w x):
 Calls Tryz.prog 7 #[.agg (ai kind n (J aw ln lc) (J y T C)),J wo wn wc] w (cy w S G (h+1+hw) (bX (h+1) w (ws.map (enc hw w)) (ai kind n (J aw ln lc) (J y T C)).toList)):=by
 have aM:Hid (sC 7 G hw h):=aH;clear aH;obtain⟨D,b,ag,V,aO,ah,aP,F⟩:=aJ.parts;have bw:(kind==5)=false:=sU aI;obtain⟨H,aQ⟩:∃H,H=h+hw:=⟨_,Q⟩;have aR:h+1+hw=H+1:=oM;rw[aR];obtain⟨s,aj⟩:∃s,s=ws.map (enc hw w):=⟨_,Q⟩;have a9:Hid (bX (h+1) w s (ai kind n (J aw ln lc) (J y T C)).toList=.agg #[.agg #[vN kind,vN n],.agg (aC D).toArray,.agg (b.map (bX h w s)).toArray]):=fK (kW (λt=>aI t.1)) ag V F;rw[<-aj];obtain rfl:=V.len
 have a':Hid (∀(w':World),Below (E (U w)) w w'->∀x∈b,∀{f i:Int} {j:OA} {k l:Nat} {m:OA} {al1 q:Nat},x=(ai f i (J j k l) (J m al1 q)).toList->Calls Tryz.prog 7 #[.agg (ai f i (J j k l) (J m al1 q)),J wo wn wc] w' (cy w' (λr=>S r/\r<E (U w)) G H (bX h w s x))):=by
  intro w' e x K f i j k l m al1 q t;subst t;have W:af (λr=>S r/\r<E (U w)) G h w _:=af.weaken (λr e ak=>⟨e,ak⟩) _ _ (F _ K);have ao:=af.frame (al.below e) e.size _ _ W;have ba:ro w (λ_=>True) 4 (J wo wn wc) (O ws) ws.flatten:=aK;have aT:∀u∈ws,af (λr=>S r/\r<E (U w)) G hw w u:=λu L=>af.weaken (λr e ak=>⟨e,ak⟩) _ _ (aL u L);have c:=aM.out ao (ba.frame (al.below e) e.size) (λu L=>af.frame (al.below e) e.size _ _ (aT u L));rw[List.map_congr_left (λu L=>bj (al.below e) e.size _ _ (aT u L) hw),<-aj,eU (al.below e) e.size s _ _ W h,<-aQ] at c;exact c
 have bb:Hid (∀a,a<O b->∃g,y=some ⟨g,0,I⟩/\g<E (U w)/\∃f i j k l m al1 q,b[a]? =some (ai f i (J j k l) (J m al1 q)).toList/\∀o,o<4->w.cell? ⟨g,a*4+o,I⟩=(ai f i (J j k l) (J m al1 q))[o]?):=by
  intro a A;obtain⟨g,c,t,hS,ap,X⟩:=V.nth (λx K=>af.four _ _ (F x K)) A;obtain⟨rfl,rfl⟩:y=some ⟨g,0,I⟩/\C=c:=sU t;obtain⟨f,i,j,k,l,m,al1,q,B⟩:=af.cells _ (F _ (List.getElem_mem A));refine⟨g,Q,ap,f,i,j,k,l,m,al1,q,by rw[gG A,B],λo aq=>?_⟩;rw[X o aq,B];simp
 have bc:Hid (ro w S 1 (J aw ln lc) (O D) (aC D)):=ag;have aU:Hid (G kind n (O D) (O b)/\O D<=30000/\O b<=30000):=⟨aP,aO,ah⟩;have bx:O b<=30000:=ah;clear ag V aO ah aP F aJ aK aL aj aQ aR aM;go_enter Tryz.func7,Tryz.ntmps7
 go_wp2_with fail;go_loopg [7,37] (O b) (λbd _ bf wr=>∃(a:Nat) (kv:Value) (vs:VV),bd=O b - a/\bf=vN a/\a<=O b/\O vs=a/\vs.map (enc H wr)=(b.take a).map (bX h w s)/\TL w S G H (E (U w)+2) (E (U w)+1) (ai kind n (J aw ln lc) kv) wr kv vs)
 case atStart=>
  refine⟨0,J I 0 0,[],Q,Q,zL _,Q,Q,⟨?_,aN.at _ _ sQ,(aN.at _ _ sQ).alloc _,oM,oM,oM,World.ownsRow_nil _ _ _ _,λr t=>by simp[Value.ownBlock] at t,λx K=>by cases K⟩⟩;exact(bV w _ _).alloc (by simp;omega) _
 case round=>
  obtain⟨a,kv,vs,aV,rfl,bz,aW,aX,d⟩:=hrel;have bg:Hid (gk=O b - a):=aV;have aY:Hid (O vs=a):=aW;have ar:Hid (vs.map (enc H wr)=(b.take a).map (bX h w s)):=aX;have aZ:O vs<=30000:=oM;clear aV aW aX
  obtain⟨Y,Z,rfl⟩:∃Y Z,kv=J Y (O vs) Z:=by
   rcases d.row.2 with⟨B,bh⟩|⟨x,u,zz,B,_⟩
   ·exact⟨I,0,by rw[B,bh]⟩
   ·exact⟨_,_,B⟩
  have aa:=d.ob.cell;have ab:=d.ob.fz;have ac:=d.ob.lt;have bi:=d.zb.cell;have bk:=d.zb.fz;have bl:=d.zb.lt;have bA:E (U w)+2≠E (U w)+1:=oM;have bB:E (U w)+1≠E (U w)+2:=oM;by_cases A:a<O b
  ·obtain⟨g,rfl,ap,f,i,j,k,l,m,al1,q,a0,X⟩:=bb.out a A;have a1:(a:Int)<(O b:Int):=oM;have bC:=d.below.size;have bD:g<E (U wr):=oM;have M:∀o,o<4->wr.cell? ⟨g,a*4+o,I⟩=(ai f i (J j k l) (J m al1 q))[o]? :=λo aq=>(d.below.cell (p:=⟨g,a*4+o,I⟩) ap).trans (X o aq);have bm:=M 0 dC;have a2:=M 1 dC;have bE:=M 2 dC;have bF:=M 3 dC;clear M X;simp only[Nat.add_zero] at bm;have au:Below (E (U wr)) wr (wr.alloc (Ob (ai f i (J j k l) (J m al1 q)) 39)).drew:=((Below.refl _ _).alloc (lR _) _).drew;have av:=d.step au;have bn:Hid (vs.map (enc H (wr.alloc (Ob (ai f i (J j k l) (J m al1 q)) 39)).drew)=(b.take a).map (bX h w s)):=(d.oq au).trans ar.out;have a3:Hid (b[a]? =some (ai f i (J j k l) (J m al1 q)).toList):=a0;clear a0 ar;go_wp2_with fail;go_region_law (first|(refine iz (v:=J Y (O vs) Z) (xv:=J (aS (E (U ax))) 1 1) (R:=λbo a4=>∃N P,bo=J N (O vs+1) P/\TL w S G H (E (U w)+2) (E (U w)+1) (ai kind n (J aw ln lc) (J Y (O vs) Z)) a4 (J N (O vs+1) P) (vs++[(ai ay az (J aA aB aD) (J aE aF aG)).toList])/\(vs++[(ai ay az (J aA aB aD) (J aE aF aG)).toList]).map (enc H a4)=vs.map (enc H ax)++[enc H ax (ai ay az (J aA aB aD) (J aE aF aG)).toList]) rQ rQ rQ rQ (ad.run bp aZ _ Q) ?_;rintro bG bH ⟨N,P,rfl,ae,bq⟩;clear aa ab ac;have aa:=ae.ob.cell;have ab:=ae.ob.fz;have ac:=ae.ob.lt)|(go_simp;refine(a'.out _ (d.below.trans (au.mono d.below.size)) _ (mG a3.out) Q).mono ?_;rintro t ax ⟨ay,az,aA,aB,aD,aE,aF,aG,rfl,br,a5,a6⟩;have ad:=av.step a6;have a7:=(av.oq a6).trans bn.out;have bp:=mC av br;have bs:Hid _:=a7;have bt:Hid _:=a5;clear a7 a5;clear aa ab ac bi bk bl;have aa:=ad.ob.cell;have ab:=ad.ob.fz;have ac:=ad.ob.lt))
   all_goals
    go_wp2_with fail;obtain⟨bu,bv⟩:=ae.put 3 (J N (O vs+1) P);go_roundg (O b - (a+1))
    case measure=>rw[bg.out];omega
    case rel=>
     refine⟨a+1,J N (O vs+1) P,_,Q,by go_num,A,by simp[aY.out],?_,bu⟩;rw[bv,bq,bs.out,bt.out,List.take_add_one,a3.out,List.map_append];rfl
  ·have a1:¬(a:Int)<(O b:Int):=oM;have bI:decide ((a:Int)<(O b:Int))=false:=sU a1;go_wp2_with fail;go_light;have a8:a=O b:=oM;have a2:vs.map (enc H wr)=b.map (bX h w s):=by rw[ar.out,a8,List.take_length]
   obtain⟨W,ao⟩:=vn d bc.out (by have:=aU.out.1;rwa [show O b=O vs by rw[aY.out,a8]] at this) aU.out.2.1 aZ;exact kI Tryz.results7 Q Q d.zb oM d.below W (by rw[ao,a2,a9.out])
end
section
variable{hw:Nat}
theorem nD {G:Int->Int->Nat->Nat->Prop} {h:Nat} (e:∀k n nl na,G k n nl na->k=5->na=0) (f:sC 7 G hw h):sC 7 G hw (h+1):=by
 intro j w i n l m o p q r s t wc u a b c;by_cases d:i=5
 ·subst d;exact oY e a b c
 ·exact nE f d a b c
theorem mi {G:Int->Int->Nat->Nat->Prop} (a:∀k n nl na,G k n nl na->k=5->na=0):(h:Nat)->sC 7 G hw h
 |0=>λb _ _=>absurd b (λc=>c)
 |h+1=>nD a (mi a h)
end
section
variable{fa fk how next one:Int} {T cb mb:Nat} {P:Nat->Prop} {w w':World}
structure Pt where
 name:ByteArray
 eQ:Bool
 ty:List Value
structure Cs where
 name:ByteArray
 ao:OA
 cp:Nat
 ps:List Pt
structure Dd where
 name:ByteArray
 mod:Int
 at_:Int
 eQ:Bool
 copy:Bool
 enum:Bool
 ak:Int
 cL:Int
 ao:OA
 cp:Nat
 cs:List Cs
 drop:Int
def Dd.c (d:Dd):List Value:=[.string d.name,vN d.mod,vN d.at_,.bool d.eQ,.bool d.copy,.bool d.enum,vN d.ak,vN d.cL,J d.ao (O d.cs) d.cp,vN d.drop]
structure MK where
 mo:OA
 mc:Nat
 ms:List Md
 cV:OA
 dN:Nat
 ds:List Dd
 tv:Value
 iv:Value
 fv:Value
 mn:Int
 rv:Value
 fk:Int
 fa:Int
 nv:Value
abbrev jO (M:MK):Array Value:=#[J M.mo (O M.ms) M.mc,J M.cV (O M.ds) M.dN,M.tv,M.iv,M.fv,vN M.mn,M.rv,vN M.fk,vN M.fa,M.nv]
structure PI (w:World) (mb:Nat) (M:MK) (T:Nat):Prop where
 eG:w.heap[mb]? =some (Ob (jO M) 88 (0,0))
 cK:dB w (J M.mo (O M.ms) M.mc) M.ms
 q:∀m∈M.ms,∀y∈m.ns,NQ (O M.ds) T y
 cu:w.ownsRow 0 64 10 (J M.cV (O M.ds) M.dN) (O M.ds) (M.ds.map Dd.c).flatten
 bB:1<=O M.ds/\O M.ds<=200000/\4<=T
 lg:∀d∈M.ds,0<=d.ak/\d.ak<=6100/\0<=d.cL/\d.cL<=6100
theorem fA (a:KT P w w') {b:Nat} {c:Array Value} {t:TypeId} {z:Nat × Nat} (h:w.heap[b]? =some (Ob c t z)) (d:P t):w'.heap[b]? =some (Ob c t z):=(a b c t z h d).trans h
theorem PI.kt {M:MK} (h:PI w mb M T) (a:KT P w w') (b:P 88) (c:P 115) (d:P 117) (e:P 64):PI w' mb M T:=
 ⟨fA a h.eG b,h.cK.kt a c d,h.q,ah h.cu a e,h.bB,h.lg⟩
theorem PI.data {M:MK} (h:PI w mb M T) {i:Nat} {d:Dd} (b:M.ds[i]? =some d):∃g,M.cV=some ⟨g,0,I⟩/\g<E (U w)/\∀a,a<10->w.cell? ⟨g,i*10+a,I⟩=(d.c)[a]? :=by
 obtain⟨g,l,c,e,_,f⟩:=aL h.cu sQ (λx j=>by obtain⟨m,_,rfl⟩:=List.mem_map.1 j;rfl) (i:=i) (x:=d.c) (by rw[List.getElem?_map,b];rfl);have k:M.cV=some ⟨g,0,I⟩:=by simpa using(Value.slice.inj c).1
 exact⟨g,k,e,f⟩
def Gd (D:Nat) (kind n:Int) (nl na:Nat):Prop:=nl<=6100/\(kind=4->0<=n/\n<(D:Int))/\(kind=6\/kind=7->nl=1/\na=1)/\(kind=5->na=0)
def aU:Nat->World->List Value->Nat
 |0,_,_=>0
 |f+1,w,cs=>1+((rowAt w 4 (uP cs)).map (aU f w)).sum
section
variable{S:Nat->Prop} {G:Int->Int->Nat->Nat->Prop} {w w':World}
theorem gQ {h f:Nat} {kind n:Int} {lv a:Value} {vs:VV} (b:ro w S 4 a (O vs) vs.flatten) (c:∀x∈vs,af S G h w x):aU (f+1) w (ai kind n lv a).toList=1+(vs.map (aU f w)).sum:=by
 have d:=gY b (λx e=>af.four h x (c x e));show 1+((rowAt w 4 a).map (aU f w)).sum=_;rw[d]
theorem aJ (c:al S w w') (d:E (U w)<=E (U w')):(h:Nat)->(cs:List Value)->af S G h w cs->∀b,aU b w' cs=aU b w cs
 |0,_,hn,_=>absurd hn (λa=>a)
 |_+1,_,_,0=>rfl
 |h+1,_,⟨kind,n,lv,av,ls,vs,h1,h2,h3,h4,h5,h6,h7⟩,b+1=>by
  subst h1;rw[gQ h3 h7,gQ (G:=G) (h3.frame c d) (λa e=>af.frame c d h a (h7 a e))];have:vs.map (aU b w')=vs.map (aU b w):=List.map_congr_left (λa e=>aJ c d h a (h7 a e) b);rw[this]
end
structure CK where
 mb:Nat
 mod:Nat
 aw:OA
 cO:Nat
 aZ:List ByteArray
 cj:OA
 tcp:Nat
 bg:List ByteArray
 bR:Bool
 sk:Int
 sn:Int
 iK:OA
 iL:Nat
 iM:Nat
 iN:OA
 iO:Nat
 iP:Nat
abbrev dL (K:CK) (how next one fk fa:Int):Array Value:=#[.pointer (aS K.mb),vN K.mod,J K.aw (O K.aZ) K.cO,J K.cj (O K.bg) K.tcp,.bool K.bR,vN K.sk,vN K.sn,J K.iK K.iL K.iM,J K.iN K.iO K.iP,vN how,vN next,vN one,vN fk,vN fa]
def bP (w:World) (cb:Nat) (K:CK) (how next one fk fa:Int):Prop:=w.heap[cb]? =some (Ob (dL K how next one fk fa) 126 (0,0))
section
variable{w w':World} {cb:Nat} {K:CK} {how next one fk fa:Int}
theorem bP.cell (h:bP w cb K how next one fk fa) (o:Nat):w.cell? ⟨cb,o,I⟩=(dL K how next one fk fa)[o]? :=cell_of_row w cb o _ 126 (0,0) h
theorem bP.fz (h:bP w cb K how next one fk fa) (o:Nat):w.frozen? ⟨cb,o,I⟩=false:=frozen_of_row w cb o _ 126 h
theorem bP.lt (h:bP w cb K how next one fk fa):cb<E (U w):=(gE h).1
theorem bP.set (h:bP w cb K how next one fk fa) (o:Nat) (u:Value):(w.setCell ⟨cb,o,I⟩ u).heap[cb]? =some (Ob ((dL K how next one fk fa).setIfInBounds o u) 126 (0,0)):=heap_setCell_same w cb o _ 126 u h
theorem bP.qY (h:bP w cb K how next one fk fa) (x:Int):bP (w.setCell ⟨cb,9,I⟩ (vN x)) cb K x next one fk fa:=h.set 9 _
theorem bP.qX (h:bP w cb K how next one fk fa) (x:Int):bP (w.setCell ⟨cb,10,I⟩ (vN x)) cb K how x one fk fa:=h.set 10 _
theorem bP.y9 (h:bP w cb K how next one fk fa) (x:Int):bP (w.setCell ⟨cb,11,I⟩ (vN x)) cb K how next x fk fa:=h.set 11 _
theorem bP.za (h:bP w cb K how next one fk fa) (x:Int):bP (w.setCell ⟨cb,12,I⟩ (vN x)) cb K how next one x fa:=h.set 12 _
theorem bP.zd (h:bP w cb K how next one fk fa) (x:Int):bP (w.setCell ⟨cb,13,I⟩ (vN x)) cb K how next one fk x:=h.set 13 _
theorem bP.below (h:bP w cb K how next one fk fa) (a:Below (E (U w)) w w'):bP w' cb K how next one fk fa:=(a.block _ h.lt).trans h
theorem bP.other (h:bP w cb K how next one fk fa) {p:Addr} (a:cb≠p.block) (u:Value):bP (w.setCell p u) cb K how next one fk fa:=(Below.heap_setCell _ _ _ _ a).trans h
theorem KT.kp (h:bP w cb K how next one fk fa) (c:Kp (E (U w)) cb w w'):KT (λa=>a≠126) w w':=λd i a j b e=>c.block d (gE b).1 (λf=>e (by
 subst f;have:=b.symm.trans h;simp at this;exact this.2.1))
end
theorem iR {K:CK} (h:bP w cb K how next one fk fa):Calls Tryz.prog 70 #[.pointer (aS cb)] w (λa w'=>a=.returned (.bool (fk==0))/\w'=w):=by
 have b:=h.cell;have c:=h.lt;go_enter Tryz.func70,Tryz.ntmps70
 go_wp2_with fail;go_ret;exact⟨Q,Q⟩
def xB (w:World) (cb:Nat) (K:CK) (how next one:Int) (e:Ending) (w':World):Prop:=
 ∃fk' fa',e=.returned (.tuple #[])/\bP w' cb K how next one fk' fa'/\Kp (E (U w)) cb w w'/\E (U w')=E (U w)
theorem ft {K:CK} (h:bP w cb K how next one fk fa) (k a:Int):Calls Tryz.prog 89 #[.pointer (aS cb),vN k,vN a] w (xB w cb K how next one):=by
 have b:=h.cell;have c:=h.fz;have d:=h.lt;go_enter Tryz.func89,Tryz.ntmps89
 go_wp2_with (go_at_call 70;refine(iR h).mono ?_;rintro e f ⟨rfl,rfl⟩)
 ·go_end0;exact⟨k,a,Q,(h.za k).zd a,(((Kp.refl _ _ _).setCell (p:=⟨cb,12,I⟩) (.inr Q) _).setCell (p:=⟨cb,13,I⟩) (.inr Q) _),sQ⟩
 ·go_end0;exact⟨fk,fa,Q,h,Kp.refl _ _ _,Q⟩
end
section
variable{w:World}
theorem mj {base:Nat} {c:OA} {e:Nat} {a:List ByteArray} (h:w.ownsRow base 9 1 (J c (O a) e) (O a) (cd a)) {i:Nat} {x:ByteArray} (b:a[i]? =some x):∃g,c=some ⟨g,0,I⟩/\g<E (U w)/\base<=g/\w.cell? ⟨g,i,I⟩=some (.string x):=by
 have d:cd a=(a.map (λx=>[Value.string x])).flatten:=by
  unfold cd;clear h b;induction a with
  |nil=>rfl
  |cons n o f=>simp only[List.map_cons,List.flatten_cons,f];rfl
 rw[d] at h;obtain⟨g,j,d,k,l,m⟩:=aL h sQ (λx b=>by obtain⟨p,_,rfl⟩:=List.mem_map.1 b;rfl) (i:=i) (x:=[Value.string x]) (by rw[List.getElem?_map,b];rfl);obtain⟨rfl,rfl⟩:c=some ⟨g,0,I⟩/\e=j:=sU d;exact⟨g,Q,k,l,sU (m 0 dC)⟩
def xE (w:World) (cb:Nat) (K:CK) (how one:Int) (e:Ending) (w':World):Prop:=
 ∃r next' fk' fa',e=.returned (vN r)/\bP w' cb K how next' one fk' fa'/\Kp (E (U w)) cb w w'/\E (U w')=E (U w)
theorem fG {i:Nat} {K:CK} {how next one fk fa:Int} (h:bP w i K how next one fk fa) (hl:w.ownsRow 0 9 1 (J K.aw (O K.aZ) K.cO) (O K.aZ) (cd K.aZ)) (C:O K.aZ<=30000) (name:ByteArray) (a:Int):Calls Tryz.prog 72 #[.pointer (aS i),.string name,vN a] w (xE w i K how one):=by
 have L:=h.cell;have M:=h.fz;have N:=h.lt;have r:Hid (w.ownsRow 0 9 1 (J K.aw (O K.aZ) K.cO) (O K.aZ) (cd K.aZ)):=hl;clear hl;obtain⟨s,D⟩:∃s,K.aw=s:=⟨_,Q⟩;obtain⟨c,t⟩:∃c,K.aZ=c:=⟨_,Q⟩;rw[D,t] at r;rw[t] at C
 cases P:(name.toList==[])
 ·cases R:(name.toList==[39,115,116,97,116,105,99])
  ·by_cases u:how=4
   ·subst u;go_enter Tryz.func72,Tryz.ntmps72
    go_wp2_with (go_at_call 89;refine(ft h _ _).mono ?_;rintro j k ⟨l,m,rfl,b,e,f⟩;have n:=b.cell;have o:=b.fz;have q:=b.lt)
    go_ret;exact⟨_,_,_,_,Q,b,e,f⟩
   ·by_cases v:how=3
    ·subst v;go_enter Tryz.func72,Tryz.ntmps72
     go_wp2_with (go_at_call 89;refine(ft h _ _).mono ?_;rintro j k ⟨l,m,rfl,b,e,f⟩;have n:=b.cell;have o:=b.fz;have q:=b.lt)
     go_ret;exact⟨_,_,_,_,Q,b,e,f⟩
    ·have S:(how==4)=false:=sU u;have T:(how==3)=false:=sU v;go_enter Tryz.func72,Tryz.ntmps72
     go_wp2_with fail;go_loopg [7,8,73] (O c) (λF _ _ G wr=>∃d:Nat,F=O c - d/\G=vN d/\d<=O c/\wr=w)
     case atStart=>exact⟨0,Q,Q,zL _,Q⟩
     case round=>
      obtain⟨d,x,rfl,V,rfl⟩:=hrel;have H:Hid (gk=O c - d):=x;clear x;by_cases y:d<O c
      ·have z:(d:Int)<(O c:Int):=oM;obtain⟨A,B⟩:∃A,c[d]? =some A:=⟨_,gG y⟩;obtain⟨g,rfl,W,_,X⟩:=mj r.out B;clear B;go_wp2_with fail
       ·go_ret;exact⟨_,_,_,_,Q,h,Kp.refl _ _ _,Q⟩
       ·go_roundg (O c - (d+1))
        case measure=>rw[H.out];omega
        case rel=>exact⟨d+1,Q,by go_num,y,Q⟩
      ·have z:¬(d:Int)<(O c:Int):=oM;have Y:decide ((d:Int)<(O c:Int))=false:=sU z;go_wp2_with (go_at_call 89;refine(ft h _ _).mono ?_;rintro j k ⟨l,m,rfl,b,e,f⟩;have n:=b.cell;have o:=b.fz;have q:=b.lt)
       go_ret;exact⟨_,_,_,_,Q,b,e,f⟩
  ·go_enter Tryz.func72,Tryz.ntmps72
   go_wp2_with (go_at_call 89;refine(ft h _ _).mono ?_;rintro j k ⟨l,m,rfl,b,e,f⟩;have n:=b.cell;have o:=b.fz;have q:=b.lt)
   all_goals
    go_ret
    first
     |exact⟨_,_,_,_,Q,b,e,f⟩
     |exact⟨_,_,_,_,Q,h,Kp.refl _ _ _,Q⟩
     |exact⟨_,_,_,_,Q,h.qX _,(Kp.refl _ _ _).setCell (p:=⟨i,10,I⟩) (.inr Q) _,sQ⟩
 ·go_enter Tryz.func72,Tryz.ntmps72
  go_wp2_with (go_at_call 89;refine(ft h _ _).mono ?_;rintro j k ⟨l,m,rfl,b,e,f⟩;have n:=b.cell;have o:=b.fz;have q:=b.lt)
  all_goals
   go_ret
   first
    |exact⟨_,_,_,_,Q,b,e,f⟩
    |exact⟨_,_,_,_,Q,h,Kp.refl _ _ _,Q⟩
    |exact⟨_,_,_,_,Q,h.qX _,(Kp.refl _ _ _).setCell (p:=⟨i,10,I⟩) (.inr Q) _,sQ⟩
end
section
variable{B0 c cb n:Nat} {S S0:Nat->Prop} {a:OA} {ks:VV} {w w':World}
structure Cx (w:World) (cb:Nat) (K:CK) (M:MK) (T:Nat) (S0:Nat->Prop) (hs Z:Nat):Prop where
 lv:w.ownsRow 0 9 1 (J K.aw (O K.aZ) K.cO) (O K.aZ) (cd K.aZ)
 lf:O K.aZ<=30000
 tv:w.ownsRow 0 9 1 (J K.cj (O K.bg) K.tcp) (O K.bg) (cd K.bg)
 tf:O K.bg<=30000
 pi:PI w K.mb M T
 mod:K.mod<O M.ms
 self:af S0 (Gd (O M.ds)) hs w (ai K.sk K.sn (J K.iK K.iL K.iM) (J K.iN K.iO K.iP)).toList
 s0:∀b,S0 b->b≠cb
 sz:∀f,aU f w (ai K.sk K.sn (J K.iK K.iL K.iM) (J K.iN K.iO K.iP)).toList<=Z
 z1:1<=Z
theorem al.zH (h:Kp (E (U w)) cb w w') (d:∀b,S b->b≠cb):al S w w':=λb e f=>h.block b f (d b e)
theorem Cx.step {K:CK} {M:MK} {T:Nat} {e f:Nat} {how next one fk fa:Int} (h:Cx w cb K M T S0 e f) (j:bP w cb K how next one fk fa) (b:Kp (E (U w)) cb w w'):Cx w' cb K M T S0 e f:=by
 have d:=KT.kp j b;have i:al S0 w w':=al.zH b h.s0;exact⟨ah h.lv d dC,h.lf,ah h.tv d dC,h.tf,h.pi.kt d dC dC dC dC,h.mod,af.frame i b.size _ _ h.self,h.s0,λk=>by rw[aJ i b.size _ _ h.self];exact h.sz k,h.z1⟩
def cZ (B0:Nat) (w:World) (v:Value) (ks:VV):Prop:=∃a c,v=J a (O ks) c/\O ks<=20000/\(0<O ks->∃g o,a=some ⟨g,o,I⟩/\g<B0/\∀i x,ks[i]? =some x->∀j,j<11->w.cell? ⟨g,o+i*11+j,I⟩=x[j]?)
def bS (w:World) (cb:Nat) (K:CK) (how one:Int) (S0:Nat->Prop) (D X:Nat) (e:Ending) (w':World):Prop:=
 ∃(kind n:Int) (aw:OA) (ln lc:Nat) (aao:OA) (an ac:Nat) (next' fk' fa':Int),e=.returned (.agg (ai kind n (J aw ln lc) (J aao an ac)))/\bP w' cb K how next' one fk' fa'/\Kp (E (U w)) cb w w'/\(∃H,af (λb=>S0 b\/E (U w)<=b) (Gd D) H w' (ai kind n (J aw ln lc) (J aao an ac)).toList)/\∀f,aU f w' (ai kind n (J aw ln lc) (J aao an ac)).toList<=X
def bZ (h:Nat):Prop:=∀{w:World} {cb:Nat} {K:CK} {M:MK} {T:Nat} {S0:Nat->Prop} {hs Z B0:Nat} {how next one fk fa:Int} (_:Cx w cb K M T S0 hs Z) (_:bP w cb K how next one fk fa) (_:B0<=cb) {kind pos n m:Int} {name:ByteArray} {ko:OA} {kl kc:Nat} (_:isNode (λb=>b<B0) True h w (ae kind pos n m name (J ko kl kc)).toList) (_:cH kind),
 Calls Tryz.prog 50 #[.pointer (some ⟨cb,0,I⟩),.agg (ae kind pos n m name (J ko kl kc))] w (bS w cb K how one S0 (O M.ds) (aG h w (ae kind pos n m name (J ko kl kc)).toList*Z))
def TO (w:World) (S0:Nat->Prop) (kv:Value) (b:Nat):Prop:=(S0 b\/E (U w)<=b)/\kv.ownBlock≠some b
structure lC (w:World) (cb:Nat) (S0:Nat->Prop) (D:Nat) (wr:World) (kv:Value) (vs:VV) (X:Nat):Prop where
 row:wr.ownsRow (E (U w)) 39 4 kv (O vs) vs.flatten
 all:∃H,∀x∈vs,af (TO w S0 kv) (Gd D) H wr x
 sz:∀f,(vs.map (aU f wr)).sum<=X
 size:E (U w)<=E (U wr)
 eS:cb<E (U w)
 s0:∀b,S0 b->b≠cb/\b<E (U w)
section
variable{w wr w':World} {cb D X:Nat} {S0:Nat->Prop} {kv:Value} {vs:VV}
theorem lC.nil (w wr:World) (d:E (U w)<=E (U wr)) (e:cb<E (U w)) (f:∀b,S0 b->b≠cb/\b<E (U w)):lC w cb S0 D wr (J I 0 0) [] 0:=
 ⟨World.ownsRow_nil _ _ _ _,⟨0,λj i=>by cases i⟩,λ_=>lR _,d,e,f⟩
theorem lC.shape (q:lC w cb S0 D wr kv vs X):∃d e,kv=J d (O vs) e:=by
 rcases q.row.2 with⟨b,f⟩|⟨x,y,zz,b,_⟩
 ·exact⟨I,0,by rw[b,f]⟩
 ·exact⟨_,_,b⟩
theorem lC.zO (q:lC w cb S0 D wr kv vs X) {b:Nat} (h:TO w S0 kv b):b≠cb:=by
 rcases h.1 with h|h
 ·exact(q.s0 b h).1
 ·have:=q.eS;omega
theorem lC.step (q:lC w cb S0 D wr kv vs X) (b:Kp (E (U wr)) cb wr w'):lC w cb S0 D w' kv vs X:=by
 obtain⟨m,k⟩:=q.all;have l:al (TO w S0 kv) wr w':=al.zH b (λe f=>q.zO f);refine⟨ag q.row (λe f o=>b.block e o (λp=>oI (q.row.lt e f).1 q.eS)),⟨m,λi j=>af.frame l b.size _ _ (k i j)⟩,λd=>?_,lT q.size b.size,q.eS,q.s0⟩;have:vs.map (aU d w')=vs.map (aU d wr):=List.map_congr_left (λi j=>aJ l b.size _ _ (k i j) d);rw[this];exact q.sz d
theorem lC.run (q:lC w cb S0 D wr kv vs X) {kind n:Int} {j:OA} {k l:Nat} {m:OA} {o p:Nat} {H Y W0:Nat} (N:∀b,kv.ownBlock=some b->b<W0) (ag:E (U w)<=W0) (x:af (λb=>S0 b\/W0<=b) (Gd D) H wr (ai kind n (J j k l) (J m o p)).toList) (P:∀f,aU f wr (ai kind n (J j k l) (J m o p)).toList<=Y) (ah:O vs<=30000) (F:TypeId) {ad:Nat} (R:ad=E (U wr)):
 ∃A w',(Builtin.append_ #[36,36] F #[kv,J (aS ad) 1 1]).run Tryz.prog (wr.alloc (Ob (ai kind n (J j k l) (J m o p)) 39))=.ok A w'/\∃u v,A=J u (O vs+1) v/\lC w cb S0 D w' (J u (O vs+1) v) (vs++[(ai kind n (J j k l) (J m o p)).toList]) (X+Y)/\(∀b,b<E (U wr)->kv.ownBlock≠some b->w'.heap[b]? =wr.heap[b]?)/\Kp (E (U w)) cb wr w':=by
 have one:∀G∈(ai kind n (J j k l) (J m o p)).toList,G.oneCell'=true:=by
  intro G x;simp at x;rcases x with rfl|rfl|rfl|rfl<;>rfl
 obtain⟨A,w',T,t⟩:=fg (W:=wr) Tryz.underlying36 jD Q dC q.row q.size (ai kind n (J j k l) (J m o p)) Q one (by unfold maxLen;omega) oM F R;obtain⟨u,v,rfl⟩:=t.shape;obtain⟨K,V⟩:=q.all
 have Z:af (TO w S0 kv) (Gd D) H wr (ai kind n (J j k l) (J m o p)).toList:=af.weaken (λb d r=>⟨d.imp (λe=>e) (λe=>by omega),λi=>by
  have y:=N b i;rcases d with d|d
  ·have:=(q.row.lt b i).1;have:=(q.s0 b d).2;omega
  ·omega⟩) _ _ x
 have L:∀e∈vs++[(ai kind n (J j k l) (J m o p)).toList],af (λb=>TO w S0 kv b/\b<E (U wr)) (Gd D) (max H K) wr e:=by
  intro e s;rcases List.mem_append.1 s with s|s
  ·exact af.weaken (λb d r=>⟨d,r⟩) _ _ (af.le (V e s) _ (Nat.le_max_right _ _))
  ·obtain rfl:e=_:=sU s;exact af.weaken (λb d r=>⟨d,r⟩) _ _ (af.le Z _ (Nat.le_max_left _ _))
 have B:∀b,b<E (U wr)->kv.ownBlock≠some b->w'.heap[b]? =wr.heap[b]? :=λb r aa=>(t.grown.block b (by simp;omega) (λi=>aa i.symm)).trans (Below.heap_alloc _ _ _ r);have M:al (λb=>TO w S0 kv b/\b<E (U wr)) wr w':=λb d r=>B b r d.1.2;have z:E (U wr)<=E (U w'):=lT sQ t.grown.size
 have ab:∀b,TO w S0 kv b/\b<E (U wr)->TO w S0 (J u (O vs+1) v) b:=by
  rintro b ⟨⟨y,C⟩,r⟩;refine⟨y,?_⟩;rcases t.own with i|i
  ·rw[i];exact C
  ·rw[i];intro ac;simp at ac;omega
 refine⟨_,w',T,u,v,Q,⟨by have:=t.row;simpa using this,⟨max H K,λe s=>af.weaken (λb d _=>ab b d) _ _ (af.frame M z _ _ (L e s))⟩,λf=>?_,lT q.size z,q.eS,q.s0⟩,B,?_⟩
 ·have ae:∀e∈vs++[(ai kind n (J j k l) (J m o p)).toList],aU f w' e=aU f wr e:=λe s=>aJ M z _ _ (L e s) f;rw[List.map_congr_left ae,List.map_append,List.sum_append];have y:=q.sz f;have C:=P f;simp only[List.map_cons,List.map_nil,List.sum_cons,List.sum_nil,Nat.add_zero];exact Nat.add_le_add y C
 ·exact⟨t.grown.os,t.grown.tape,t.grown.output,z,λb d _=>B b (oH q.size) (λi=>oH (q.row.lt b i).1)⟩
end
theorem cZ.nth (h:cZ B0 w (J a n c) ks) {i:Nat} {x:List Value} (e:ks[i]? =some x):∃g d,a=some ⟨g,d,I⟩/\g<B0/\∀b,b<11->w.cell? ⟨g,d+i*11+b,I⟩=x[b]? :=by
 obtain⟨p,q,f,_,j⟩:=h;obtain⟨g,d,k,l,m⟩:=j (oH (gS e).1);exact⟨g,d,by rw[<-k];exact(Value.slice.inj f).1,l,λb o=>m i x e b o⟩
theorem cZ.len (h:cZ B0 w (J a n c) ks):n=O ks/\O ks<=20000:=by
 obtain⟨e,f,b,d,_⟩:=h;exact⟨(Value.slice.inj b).2.1,d⟩
theorem isNode.cells {g:Prop} {h:Nat} {cs:List Value} (k:isNode S g h w cs):∃d pos n e b ko kl kc,cs=(ae d pos n e b (J ko kl kc)).toList/\b.size<=20000:=by
 cases h with
 |zero=>exact absurd k (λl=>l)
 |succ h=>
  obtain⟨d,pos,n,e,b,kv,vs,m,o,r,s,p,t,u,v⟩:=k
  obtain⟨f,i,rfl⟩:∃f i,kv=J f (O vs) i:=by
   rcases p.2 with⟨j,q⟩|⟨l,y,zz,j,_⟩
   ·exact⟨I,0,by rw[j,q]⟩
   ·exact⟨_,_,j⟩
  exact⟨d,pos,n,e,b,f,O vs,i,m,o⟩
end
section
variable{K:CK} {M:MK} {T Z cb h hs:Nat} {S0:Nat->Prop} {w:World}
def vG (w:World) (cb:Nat) (K:CK) (how one:Int) (S0:Nat->Prop) (D k X:Nat) (e:Ending) (w':World):Prop:=
 ∃(ao:OA) (cp:Nat) (vs:VV) (next' fk' fa':Int),e=.returned (J ao (O vs) cp)/\O vs=k/\bP w' cb K how next' one fk' fa'/\Kp (E (U w)) cb w w'/\lC w cb (λb=>S0 b/\b<E (U w)) D w' (J ao (O vs) cp) vs X
theorem af.low {S:Nat->Prop} {G:Int->Int->Nat->Nat->Prop} {cs:List Value} (b:af S G h w cs):af (λa=>S a/\a<E (U w)) G h w cs:=af.weaken (λa c d=>⟨c,d⟩) _ _ b
theorem Cx.low (h:Cx w cb K M T S0 hs Z):Cx w cb K M T (λa=>S0 a/\a<E (U w)) hs Z:=
 ⟨h.lv,h.lf,h.tv,h.tf,h.pi,h.mod,af.low h.self,λa b=>h.s0 a b.1,h.sz,h.z1⟩
theorem fJ (P:bZ h) {B0:Nat} {how next one fk fa:Int} (F:Cx w cb K M T S0 hs Z) (q:bP w cb K how next one fk fa) (ao:B0<=cb) {ka:OA} {kl kc:Nat} {ks:VV} (G:cZ B0 w (J ka kl kc) ks) (R:∀x∈ks,isNode (λb=>b<B0) True h w x/\cH (aA x)):
 Calls Tryz.prog 71 #[.pointer (some ⟨cb,0,I⟩),J ka kl kc] w (vG w cb K how one S0 (O M.ds) (O ks) ((ks.map (aG h w)).sum*Z)):=by
 have ap:Hid (bZ h):=@P;clear P;obtain⟨aq,a5⟩:=G.len;subst aq;have ar:=q.lt;have B:Hid (Cx w cb K M T (λb=>S0 b/\b<E (U w)) hs Z/\bP w cb K how next one fk fa/\cZ B0 w (J ka (O ks) kc) ks/\∀x∈ks,isNode (λb=>b<B0) True h w x/\cH (aA x)):=⟨F.low,q,G,R⟩;have au:∀b,(S0 b/\b<E (U w))->b≠cb/\b<E (U w):=λb z=>⟨F.s0 b z.1,z.2⟩;clear F G R;go_enter Tryz.func71,Tryz.ntmps71
 go_wp2_with fail;go_loopg [5,7,10] (O ks) (λav v _ aw wr=>∃(a:Nat) (s:OA) (t:Nat) (n:VV) (next fk fa:Int),av=O ks - a/\aw=.int .i64 a/\v=J s (O n) t/\a<=O ks/\O n=a/\bP wr cb K how next one fk fa/\Kp (E (U w)) cb w wr/\lC w cb (λb=>S0 b/\b<E (U w)) (O M.ds) wr (J s (O n) t) n (((ks.take a).map (aG h w)).sum*Z))
 case atStart=>exact⟨0,I,0,[],next,fk,fa,Q,Q,Q,zL _,Q,q,Kp.refl _ _ _,sU (lC.nil w w (lR _) ar au)⟩
 case round=>
  clear q;obtain⟨a,s,t,n,next,fk,fa,S,rfl,rfl,a6,V,q,o,H⟩:=hrel;have ax:Hid (gk=O ks - a):=S;have W:Hid (O n=a):=V;have ay:O n<=30000:=oM;clear S V;by_cases X:a<O ks
  ·have Y:(a:Int)<(O ks:Int):=oM;obtain⟨x,C⟩:∃x,ks[a]? =some x:=⟨_,gG X⟩;obtain⟨D,r⟩:=B.out.2.2.2 x (mG C);obtain⟨c,f,d,i,j,k,e,l,rfl,_⟩:=isNode.cells D;obtain⟨g,aa,rfl,a7,ab⟩:=B.out.2.2.1.nth C
   have ac:cH c:=by
    have u:aA (ae c f d i j (J k e l)).toList=fL c d e:=rfl;rw[u] at r;unfold fL at r;split at r
    ·rename_i a8
     obtain⟨az,b⟩:=r;omega
    ·split at r
     ·obtain⟨az,b⟩:=r;omega
     ·exact r
   have ad:Hid (ks[a]? =some (ae c f d i j (J k e l)).toList/\cH c):=⟨C,ac⟩;have m:∀y,y<11->wr.cell? ⟨g,aa+a*11+y,I⟩=(ae c f d i j (J k e l)).toList[y]? :=λy aB=>(o.cell (p:=⟨g,aa+a*11+y,I⟩) (by show g<_;omega) (by show g≠cb;omega)).trans (ab y aB);have aC:=m 0 dC;have a9:=m 1 dC;have a':=m 2 dC;have ba:=m 3 dC;have bb:=m 4 dC;have bc:=m 5 dC;have bd:=m 6 dC;have bf:=m 7 dC;have bg:=m 8 dC;have bh:=m 9 dC;have bi:=m 10 dC;simp only[Nat.add_zero] at aC;have bj:g<E (U wr):=oH o.size;have A:Below (E (U wr)) wr (wr.alloc (Ob (ae c f d i j (J k e l)) 46)):=(al1 _ _).1;have L:al (λb=>b<B0) w (wr.alloc (Ob (ae c f d i j (J k e l)) 46)):=λb z aD=>(A.block b (oH o.size)).trans (o.block b aD oM);have aE:Hid (isNode (λb=>b<B0) True h (wr.alloc (Ob (ae c f d i j (J k e l)) 46)) (ae c f d i j (J k e l)).toList):=isNode.frame L _ _ D;have aF:Hid (aG h (wr.alloc (Ob (ae c f d i j (J k e l)) 46)) (ae c f d i j (J k e l)).toList=aG h w (ae c f d i j (J k e l)).toList):=aQ L _ _ D h;clear C D r ab m ac L;have aH:=q.below A;have N:=H.step (Kp.aq A);go_wp2_with fail;refine(ap.out ((B.out.1.step B.out.2.1 o).step q (Kp.aq A)) aH ao aE.out ad.out.2).mono ?_;rintro u aI ⟨aJ,aK,aL,aM,aN,aO,aP,aR,aT,aU,aV,rfl,af,ag,⟨bk,aW⟩,ah⟩;rw[aF.out] at ah;have aj:=N.step ag;have aX:∀b,(Value.slice s (O n) t).ownBlock=some b->b<E (U (wr.alloc (Ob (ae c f d i j (J k e l)) 46))):=λb z=>(N.row.lt b z).2;have aY:E (U w)<=E (U (wr.alloc (Ob (ae c f d i j (J k e l)) 46))):=N.size;have aZ:=o.trans ((Kp.aq (rb:=cb) (A.mono o.size)).trans (ag.mono (by have:=o.size;simp;omega)));go_wp2_with (at_builtin;refine bC 36 (v:=J s (O n) t) (xv:=J (aS (E (U aI))) 1 1) rQ rQ rQ rQ (aj.run aX aY aW ah ay _ Q) ?_;rintro bl bm ⟨a0,a1,rfl,a2,a3,a4⟩)
   go_roundg (O ks - (a+1))
   case measure=>rw[ax.out];omega
   case rel=>
    refine⟨a+1,a0,a1,n++[(ai aJ aK (J aL aM aN) (J aO aP aR)).toList],aT,aU,aV,Q,by go_num,sQ,X,by simp[W.out],?_,aZ.trans a4,?_⟩
    ·exact(a3 cb af.lt (λu=>oH (aj.row.lt cb u).1)).trans af
    ·have u:((ks.take (a+1)).map (aG h w)).sum*Z=((ks.take a).map (aG h w)).sum*Z+aG h w (ae c f d i j (J k e l)).toList*Z:=by
      rw[List.take_add_one,ad.out.1,List.map_append,List.sum_append,Nat.add_mul];simp
     rw[u];simpa using a2
  ·have Y:¬(a:Int)<(O ks:Int):=oM;have bn:decide ((a:Int)<(O ks:Int))=false:=sU Y;go_wp2_with fail;go_ret;have ak:a=O ks:=oM;refine⟨s,t,n,next,fk,fa,Q,by rw[W.out,ak],q,o,?_⟩;rw[ak,List.take_length] at H;exact H
end
section
variable{kind n:Int} {ls:List Int} {B0 D cb:Nat} {S:Nat->Prop} {vs:VV} {w w' wr:World}
theorem isNode.kids {h:Nat} {pos m:Int} {name:ByteArray} {ko:OA} {kl kc:Nat} (l:isNode (λb=>b<B0) True (h+1) w (ae kind pos n m name (J ko kl kc)).toList):∃vs:VV,kl=O vs/\cZ B0 w (J ko kl kc) vs/\(∀a∈vs,isNode (λb=>b<B0) True h w a)/\Gr kind n name (vs.map aA)/\aG (h+1) w (ae kind pos n m name (J ko kl kc)).toList=1+(vs.map (aG h w)).sum/\name.size<=20000/\(∀c,c<O vs->∃g,ko=some ⟨g,0,I⟩)/\O vs<=kc/\(0<=pos/\pos<=7000):=by
 have H:=l;obtain⟨L,M,N,P,R,T,vs,o,r,s,t,e,u,f,v⟩:=l;simp at o;obtain⟨rfl,rfl,rfl,rfl,rfl,rfl⟩:=o;have x:∀a∈vs,O a=11:=λa i=>(isNode.ry _ _ (f a i)).1
 have d:kl=O vs/\O vs<=kc/\∀c,c<O vs->∃g,ko=some ⟨g,0,I⟩:=by
  rcases e.2 with⟨j,V⟩|⟨g,y,zz,j,_,_,x4,_⟩
  ·obtain⟨_,p,_⟩:ko=I/\kl=0/\kc=0:=sU j;exact⟨oM,oM,λc W=>by omega⟩
  ·obtain⟨z,p,X⟩:ko=some ⟨g,0,I⟩/\kl=O vs/\kc=y:=sU j;exact⟨p,oM,λ_ _=>⟨g,z⟩⟩
 refine⟨vs,d.1,⟨ko,kc,by rw[d.1],t,λA=>?_⟩,f,v trivial,pB e f,r,d.2.2,d.2.1,s⟩;obtain⟨g,k⟩:=d.2.2 0 A;refine⟨g,0,k,u g (by rw[k];rfl),λc a i B C=>?_⟩;obtain⟨F,Y,q,_,_,G⟩:=aL e Q x i
 have:g=F:=by
  rw[k] at q;simpa using(Value.slice.inj q).1
 subst this;rw[Nat.zero_add];exact G B C
theorem cZ.frame {v:Value} {ks:VV} (h:cZ B0 w v ks) (i:al (λb=>b<B0) w w') (u:B0<=E (U w)):cZ B0 w' v ks:=by
 obtain⟨a,j,k,l,m⟩:=h;refine⟨a,j,k,l,λo=>?_⟩;obtain⟨g,c,p,d,q⟩:=m o;exact⟨g,c,p,d,λe r s f t=>(World.cell?_of_block (w:=w) (a:=⟨g,c+e*11+f,I⟩) (i g d oM)).trans (q e r s f t)⟩
theorem kR {G:Int->Int->Nat->Nat->Prop} {H:Nat} {lv a:Value} (b:ro w S 1 lv (O ls) (aC ls)) (c:ro w S 4 a (O vs) vs.flatten) (d:O ls<=30000) (e:O vs<=30000) (f:G kind n (O ls) (O vs)) (i:∀x∈vs,af S G H w x):af S G (H+1) w (ai kind n lv a).toList:=⟨kind,n,lv,a,ls,vs,Q,b,c,d,e,f,i⟩
theorem mr (w:World) (S:Nat->Prop) (size:Nat):ro w S size (J I 0 0) 0 []:=⟨I,0,Q,sQ,λh=>absurd h oM⟩
theorem dz (c:(kind=4->0<=n/\n<(D:Int))/\kind≠6/\kind≠7):af S (Gd D) 1 w (ai kind n (J I 0 0) (J I 0 0)).toList/\∀b,aU b w (ai kind n (J I 0 0) (J I 0 0)).toList<=1:=by
 refine⟨kR (ls:=[]) (vs:=[]) (mr _ _ _) (mr _ _ _) dC dC ⟨dC,c.1,λa=>by rcases a with a|a;exact absurd a c.2.1;exact absurd a c.2.2,λ_=>rfl⟩ (λe d=>by cases d),λb=>?_⟩
 cases b with
 |zero=>exact zL _
 |succ b=>exact lR _
structure GM (w:World) (cb:Nat) (K:CK) (how one:Int) (nd:Array Value) (kind n:Int) (wr:World) (lo:OA) (lc:Nat) (ls:List Int) (next fk fa:Int):Prop where
 k:Kp (E (U w)) cb w wr
 c:bP wr cb K how next one fk fa
 eS:cb<E (U w)
 nb:wr.heap[E (U w)]? =some (Ob nd 46 (0,0))
 tb:aN wr (E (U w)+1) (ai kind n (J lo (O ls) lc) (J I 0 0))
 zb:aN wr (E (U w)+2) dF
 row:wr.ownsRow (E (U w)+3) 3 1 (J lo (O ls) lc) (O ls) (aC ls)
section
variable{w wr w':World} {cb:Nat} {K:CK} {how one:Int} {nd:Array Value} {kind n:Int} {lo:OA} {lc:Nat} {ls:List Int} {next fk fa next' fk' fa':Int}
theorem GM.step (q:GM w cb K how one nd kind n wr lo lc ls next fk fa) (a:Kp (E (U wr)) cb wr w') (c:bP w' cb K how next' one fk' fa'):GM w cb K how one nd kind n w' lo lc ls next' fk' fa':=by
 have f:=q.zb.lt;have i:=q.eS;refine⟨q.k.trans (a.mono q.k.size),c,q.eS,(a.block _ oM oM).trans q.nb,(a.block _ oM oM).trans q.tb,(a.block _ oM oM).trans q.zb,ag q.row (λb d e=>a.block b e (oH (q.row.lt b d).1))⟩
theorem GM.drew (q:GM w cb K how one nd kind n wr lo lc ls next fk fa):GM w cb K how one nd kind n wr.drew lo lc ls next fk fa:=q.step (Kp.refl _ _ _).drew q.c
theorem GM.run (q:GM w cb K how one nd kind n wr lo lc ls next fk fa) (r:Int) (A:O ls<=30000) (k:TypeId) {ad:Nat} (t:ad=E (U wr)):
 ∃i w',(Builtin.append_ #[22,22] k #[J lo (O ls) lc,J (aS ad) 1 1]).run Tryz.prog (wr.alloc (Ob #[vN r] 3))=.ok i w'/\∃b c,i=J b (O ls+1) c/\aN w' (E (U w)+1) (ai kind n (J lo (O ls) lc) (J I 0 0))/\GM w cb K how one nd kind n (w'.setCell ⟨E (U w)+1,2,I⟩ (J b (O ls+1) c)) b c (ls++[r]) next fk fa:=by
 have B:=q.nb;have C:=q.zb.lt;have F:=q.eS;have G:=q.c.lt
 have one:∀j∈(#[Value.int .i64 r]:Array Value).toList,j.oneCell'=true:=by
  intro j u;obtain rfl:j=vN r:=sU u;rfl
 obtain⟨i,w',v,d⟩:=fg (W:=wr) Tryz.underlying22 rF Q dC q.row oM #[vN r] rfl one (by unfold maxLen;omega) oM k t;obtain⟨b,c,rfl⟩:=d.shape;have l:∀a,a<E (U w)+3->w'.heap[a]? =wr.heap[a]? :=λa m=>(d.grown.block a (by simp;omega) (λe=>oH (q.row.lt a e.symm).1)).trans (Below.heap_alloc _ _ _ oM);have o:aN w' (E (U w)+1) (ai kind n (J lo (O ls) lc) (J I 0 0)):=(l _ oM).trans q.tb;refine⟨_,w',v,b,c,Q,o,?_⟩;have f:∀a,a<E (U w)+3->a≠E (U w)+1->(w'.setCell ⟨E (U w)+1,2,I⟩ (J b (O ls+1) c)).heap[a]? =wr.heap[a]? :=λa m x=>(Below.heap_setCell _ ⟨E (U w)+1,2,I⟩ _ _ x).trans (l a m);have p:=d.row;have y:E (U wr)<=E (U w'):=lT sQ d.grown.size;refine⟨q.k.trans ⟨d.grown.os,d.grown.tape,d.grown.output,sU y,λa s _=>f a oM oM⟩,(f cb oM oM).trans q.c,q.eS,(f _ oM oM).trans q.nb,?_,(f _ oM oM).trans q.zb,?_⟩
 ·have:=aN.set o 2 (J b (O ls+1) c);simpa using this
 ·have e:aC (ls++[r])=aC ls++[vN r]:=by simp[aC]
  rw[e];have z:O (ls++[r])=O ls+1:=sQ;rw[z];exact ag p (λa s _=>Below.heap_setCell _ ⟨E (U w)+1,2,I⟩ _ _ (λe=>by have:=(p.lt a s).1;simp at e;omega))
end
theorem lC.mono {X:Nat} {a S1:Nat->Prop} {kv:Value} (q:lC w cb a D wr kv vs X) (d:∀b,a b->S1 b) (e:∀b,S1 b->b≠cb/\b<E (U w)):lC w cb S1 D wr kv vs X:=by
 obtain⟨f,i⟩:=q.all;exact⟨q.row,⟨f,λj k=>af.weaken (λb c _=>⟨c.1.imp (d b) (λl=>l),c.2⟩) _ _ (i j k)⟩,q.sz,q.size,q.eS,e⟩
end
section
variable{name:ByteArray} {K:CK} {fa fk how kind m n next nn one pos x y:Int} {M:MK} {B0 Z cb h kc kl nl:Nat} {S0:Nat->Prop} {ko:OA} {ks:VV} {W w:World}
theorem bT (h:x≠y):(x !=y)=true:=sU h
theorem bF (h:x=y):(x !=y)=false:=by simp[h]
theorem eT (h:x=y):(x==y)=true:=by simp[h]
theorem eF (h:x≠y):(x==y)=false:=sU h
theorem tO (h:aA (ae kind pos n m name (J ko kl kc)).toList=x) (b:x≠8) (c:x≠108/\x≠ -108):kind=x:=by
 have a:aA (ae kind pos n m name (J ko kl kc)).toList=fL kind n kl:=rfl;rw[a] at h;unfold fL at h;split at h
 ·omega
 ·split at h
  ·omega
  ·exact h
theorem wR (h:cH (aA (ae kind pos n m name (J ko kl kc)).toList)):cH kind:=by
 have a:=tO (x:=aA (ae kind pos n m name (J ko kl kc)).toList) Q (oI h.1 h.2) (oI h.1 h.2);rw[a];exact h
structure GN (h B0:Nat) (w:World) (ko:OA) (kc:Nat) (ks:VV) (nl:Nat):Prop where
 tK:nl<=O ks
 km:O ks<=20000
 uF:O ks<=kc
 node:∀x∈ks,isNode (λb=>b<B0) True h w x
 ty:∀x∈ks.drop nl,cH (aA x)
 row:cZ B0 w (J ko (O ks) kc) ks
 eH:∀i,i<O ks->∃k1 p1 n1 m1 s1 o1 l1 c1 g,ks[i]? =some (ae k1 p1 n1 m1 s1 (J o1 l1 c1)).toList/\ko=some ⟨g,0,I⟩/\g<B0/\(∀j,j<11->w.cell? ⟨g,i*11+j,I⟩=(ae k1 p1 n1 m1 s1 (J o1 l1 c1)).toList[j]?)/\(i<nl->k1=19)/\(nl<=i->cH k1)
theorem GN.of (A:isNode (λb=>b<B0) True (h+1) w (ae 18 pos nn m name (J ko kl kc)).toList):∃ks nl,kl=O ks/\GN h B0 w ko kc ks nl/\aG (h+1) w (ae 18 pos nn m name (J ko kl kc)).toList=1+(ks.map (aG h w)).sum:=by
 obtain⟨ks,rfl,e,j,B,C,aa,D,F,ab⟩:=A.kids;obtain⟨-,k,ac,f,G,l⟩:=B.path Q;refine⟨ks,O k,Q,⟨?_,e.len.2,F,j,?_,e,?_⟩,C⟩
 ·have:=congrArg List.length f;simp at this;omega
 ·intro x H;apply l
  have:aA x∈(ks.map aA).drop (O k):=by rw[<-List.map_drop];exact List.mem_map_of_mem H
  rw[f,List.drop_left] at this;exact this
 ·intro i o;obtain⟨x,c⟩:∃x,ks[i]? =some x:=⟨_,gG o⟩;obtain⟨p,q,r,s,t,u,v,z,rfl,_⟩:=isNode.cells (j x (mG c));obtain⟨g,L,d,N,P⟩:=e.nth c;obtain⟨ad,R⟩:=D i o;have S:L=0:=by rw[R] at d;simp at d;exact d.2.symm
  subst S;have a:(ks.map aA)[i]? =some (aA (ae p q r s t (J u v z)).toList):=by rw[List.getElem?_map,c];rfl
  rw[f] at a;refine⟨p,q,r,s,t,u,v,z,g,c,d,N,λT V=>by have:=P T V;rwa [Nat.zero_add] at this,λX=>?_,λY=>?_⟩
  ·rw[List.getElem?_append_left X] at a;exact tO (G _ (mG a)) dC dC
  ·rw[List.getElem?_append_right Y] at a;exact wR (l _ (mG a))
theorem GN.u6 (q:GN h B0 w ko kc ks nl) (a:OA) (c:Nat) (d:O ks - nl=0):cZ B0 w (J a (O ks - nl) c) (ks.drop nl):=
 ⟨a,c,sQ,by have:=q.km;simp;omega,λb=>by simp at b;omega⟩
theorem GN.xV {g:Nat} (q:GN h B0 w (aS g) kc ks nl) (c:Nat):cZ B0 w (J (some ⟨g,nl*11,I⟩) (O ks - nl) c) (ks.drop nl):=by
 refine⟨some ⟨g,nl*11,I⟩,c,sQ,by have:=q.km;simp;omega,λb=>?_⟩;have r:nl<O ks:=by simp at b;omega
 obtain⟨s,t,u,v,z,A,B,C,d,_,e,f,_⟩:=q.eH 0 oM;obtain rfl:g=d:=sU e;refine⟨g,nl*11,Q,f,λD x a i j=>?_⟩;rw[List.getElem?_drop] at a;obtain⟨k,l,o,_,p⟩:=q.row.nth a;have:=p i j;obtain⟨rfl,rfl⟩:g=k/\0=l:=sU o;rw[Nat.zero_add,Nat.add_mul] at this;exact this
theorem Kp.bQ {d rb:Nat} {a:World} (h:Kp d rb a w) {b:Nat} (c:d<=b) (c0 c1 c2 c3:Value):Kp d rb a (Go.Proofs.YtcnnibahjmekdaaGreat.bQ w b c0 c1 c2 c3):=
 Kp.setCell (p:=⟨b,3,I⟩) (Kp.setCell (p:=⟨b,2,I⟩) (Kp.setCell (p:=⟨b,1,I⟩) (Kp.setCell (p:=⟨b,0,I⟩) h (.inl c) _) (.inl c) _) (.inl c) _) (.inl c) _
theorem iE (r:(kind=4->0<=n/\n<(O M.ds:Int))/\kind≠5/\kind≠6/\kind≠7) (aa:1<=Z) {i:OA} {j:Nat} {ls:List Int} (q:GM w cb K how one (ae 18 pos nn m name (J ko (O ks) kc)) kind n W i j ls next fk fa) (R:O ls<=6100) {c:World} {d:OA} {e:Nat} {vs:VV} {z A B:Int} (C:bP c cb K how z one A B) (T:Kp (E (U W)) cb W c) (ab:O vs<=20000) (k:lC W cb (λb=>S0 b/\b<E (U w)) (O M.ds) c (J d (O vs) e) vs (((ks.drop nl).map (aG h w)).sum*Z)) (s:Act) (V:s.defers=[]) (X:s.tmps.getD 10 undef=.pointer (some ⟨E (U w)+2,0,I⟩)):
 bodyPost Tryz.prog Tryz.f90 (bS w cb K how one S0 (O M.ds) ((1+(ks.map (aG h w)).sum)*Z)) .ret s (bQ (c.setCell ⟨E (U w)+1,3,I⟩ (J d (O vs) e)) (E (U w)+2) (.int .i64 kind) (.int .i64 n) (J i (O ls) j) (J d (O vs) e)):=by
 have o:=q.step T C;have ac:=q.zb.lt;have ad:=o.zb.lt;have D:∀b,b≠E (U w)+1->b≠E (U w)+2->(bQ (c.setCell ⟨E (U w)+1,3,I⟩ (J d (O vs) e)) (E (U w)+2) (vN kind) (vN n) (J i (O ls) j) (J d (O vs) e)).heap[b]? =c.heap[b]? :=λb F l=>(Below.heap_setCell _ ⟨E (U w)+2,3,I⟩ _ _ l).trans ((Below.heap_setCell _ ⟨E (U w)+2,2,I⟩ _ _ l).trans ((Below.heap_setCell _ ⟨E (U w)+2,1,I⟩ _ _ l).trans ((Below.heap_setCell _ ⟨E (U w)+2,0,I⟩ _ _ l).trans (Below.heap_setCell _ ⟨E (U w)+1,3,I⟩ _ _ F))));have Y:aN (c.setCell ⟨E (U w)+1,3,I⟩ (J d (O vs) e)) (E (U w)+2) dF:=o.zb.other (p:=⟨E (U w)+1,3,I⟩) (by show E (U w)+2≠E (U w)+1;omega) _;obtain⟨t,H⟩:=k.all
 have L:∀b,((S0 b/\b<E (U w))\/E (U W)<=b)->(S0 b\/E (U w)<=b)/\b≠E (U w)+1/\b≠E (U w)+2:=by
  rintro b (a|a)
  ·exact⟨.inl a.1,oM,oM⟩
  ·exact⟨.inr oM,oM,oM⟩
 have N:al (λb=>(S0 b\/E (U w)<=b)/\b≠E (U w)+1/\b≠E (U w)+2) c (bQ (c.setCell ⟨E (U w)+1,3,I⟩ (J d (O vs) e)) (E (U w)+2) (vN kind) (vN n) (J i (O ls) j) (J d (O vs) e)):=λb a _=>D b a.2.1 a.2.2
 have P:af (λb=>(S0 b\/E (U w)<=b)/\b≠E (U w)+1/\b≠E (U w)+2) (Gd (O M.ds)) (t+1) c (ai kind n (J i (O ls) j) (J d (O vs) e)).toList:=
  kR (ro.bJ o.row (λb a=>by have:=(o.row.lt b a).1;exact⟨.inr oM,oM,oM⟩)) (ro.bJ k.row (λb a=>L b (.inr (k.row.lt b a).1))) oM oM ⟨R,r.1,λf=>by rcases f with f|f;exact absurd f r.2.2.1;exact absurd f r.2.2.2,λf=>absurd f r.2.1⟩ (λx u=>af.weaken (λb a _=>L b a.1) _ _ (H x u))
 refine bodyPost_ret (dQ Tryz.results90 X (aN.bQ Y _ _ _ _)) V ⟨kind,n,i,O ls,j,d,O vs,e,z,A,B,Q,?_,?_,⟨t+1,af.weaken (λb a _=>a.1) _ _ (af.frame N sQ _ _ P)⟩,λv=>?_⟩
 ·have:=q.eS;exact(D cb oM oM).trans C
 ·exact Kp.bQ (Kp.setCell (p:=⟨E (U w)+1,3,I⟩) o.k (.inl (Nat.le_add_right _ _)) _) (Nat.le_add_right _ _) _ _ _ _
 ·rw[aJ N sQ _ _ P]
  cases v with
  |zero=>exact zL _
  |succ v=>
   rw[gQ (S:=TO W (λb=>S0 b/\b<E (U w)) (J I 0 0)) (G:=Gd (O M.ds)) (h:=t) (ro.bJ k.row (λb a=>⟨.inr (k.row.lt b a).1,by simp[Value.ownBlock]⟩)) (λx u=>af.weaken (λb a _=>⟨a.1,by simp[Value.ownBlock]⟩) _ _ (H x u))];have F:=k.sz v
   have l:((ks.drop nl).map (aG h w)).sum<=(ks.map (aG h w)).sum:=by
    conv=>rhs;rw[<-List.take_append_drop nl ks]
    rw[List.map_append,List.sum_append];omega
   have ag:=Nat.mul_le_mul_right Z l;rw[Nat.add_mul,Nat.one_mul];omega
theorem eZ (d:(kind=4->0<=n/\n<(O M.ds:Int))/\kind≠5/\kind≠6/\kind≠7) (e:1<=Z) (q:GM w cb K how one (ae 18 pos nn m name (J ko (O ks) kc)) kind n W I 0 [] next fk fa) (c:Act) (f:c.defers=[]) (i:c.tmps.getD 10 undef=.pointer (aS (E (U w)+2))):
 bodyPost Tryz.prog Tryz.f90 (bS w cb K how one S0 (O M.ds) ((1+(ks.map (aG h w)).sum)*Z)) .ret c (bQ W (E (U w)+2) (.int .i64 kind) (.int .i64 n) (J I 0 0) (J I 0 0)):=by
 have p:=q.eS;obtain⟨j,k⟩:=dz (S:=λa=>S0 a\/E (U w)<=a) (D:=O M.ds) (w:=bQ W (E (U w)+2) (vN kind) (vN n) (J I 0 0) (J I 0 0)) (kind:=kind) (n:=n) ⟨d.1,d.2.2⟩;have l:∀a,a≠E (U w)+2->(bQ W (E (U w)+2) (vN kind) (vN n) (J I 0 0) (J I 0 0)).heap[a]? =W.heap[a]? :=λa b=>(Below.heap_setCell _ ⟨E (U w)+2,3,I⟩ _ _ b).trans ((Below.heap_setCell _ ⟨E (U w)+2,2,I⟩ _ _ b).trans ((Below.heap_setCell _ ⟨E (U w)+2,1,I⟩ _ _ b).trans (Below.heap_setCell _ ⟨E (U w)+2,0,I⟩ _ _ b)));refine bodyPost_ret (dQ Tryz.results90 i (aN.bQ q.zb _ _ _ _)) f ⟨kind,n,I,0,0,I,0,0,next,fk,fa,Q,(l cb oM).trans q.c,Kp.bQ q.k (Nat.le_add_right _ _) _ _ _ _,⟨1,j⟩,λo=>lT (k o) ?_⟩;have r:1*1<=(1+(ks.map (aG h w)).sum)*Z:=Nat.mul_le_mul oM e;omega
end
theorem rK {h:Nat} (z:bZ h) {w:World} {c:Nat} {K:CK} {M:MK} {T:Nat} {l:Nat->Prop} {A o B0:Nat} {how next one fk fa:Int} (q:Cx w c K M T l A o) (j:bP w c K how next one fk fa) (aD:B0<=c) {pos e m:Int} {name:ByteArray} {g:Nat} {kc nl:Nat} {ks:VV} (f:GN h B0 w (aS g) kc ks nl) {kind n:Int} (B:(kind=4->0<=n/\n<(O M.ds:Int))/\kind≠5/\kind≠6/\kind≠7) (r:Nat) (C:Int) (hl:r<=6100) (S:nl<O ks) (aE:((nl:Int) !=0)=true) (aF:((nl:Int) !=(r:Int))=false) (aH:((O ks:Int) - (nl:Int) !=C)=true):
 Calls Tryz.prog 90 #[.pointer (some ⟨c,0,I⟩),.agg (ae 18 pos e m name (J (some ⟨g,0,I⟩) (O ks) kc)),.agg (ai kind n (J I 0 0) (J I 0 0)),.int .i64 r,.int .i64 C] w (bS w c K how one l (O M.ds) ((1+(ks.map (aG h w)).sum)*o)):=by
 have aI:Hid (bZ h):=@z;clear z;have aJ:=f.km;have aK:=f.uF;have aL:=f.tK;have V:=q.z1;have W:=j.lt;have aM:Hid (Cx w c K M T (λD=>l D/\D<E (U w)) A o):=q.low;have aN:Hid (bP w c K how next one fk fa):=j;have F:Hid (GN h B0 w (aS g) kc ks nl):=f;obtain⟨s,G,H,L⟩:=np w (Ob (ae 18 pos e m name (J (aS g) (O ks) kc)) 46) (Ob (ai kind n (J I 0 0) (J I 0 0)) 39) (Ob dF 39);have N:GM w c K how one (ae 18 pos e m name (J (aS g) (O ks) kc)) kind n (((w.alloc (Ob (ae 18 pos e m name (J (aS g) (O ks) kc)) 46)).alloc (Ob (ai kind n (J I 0 0) (J I 0 0)) 39)).alloc (Ob dF 39)) I 0 [] next fk fa:=⟨Kp.aq s,j.below s,W,G,H,L,World.ownsRow_nil _ _ _ _⟩;clear s G H L q j f;have X:Hid ((kind=4->0<=n/\n<(O M.ds:Int))/\kind≠5/\kind≠6/\kind≠7):=B;clear B;go_enter Tryz.func90,Tryz.ntmps90
 go_wp2_with fail;go_loopg [11] (O ks) (λY Z wr=>∃a:Nat,Y=O ks - a/\Z=vN a/\a<=nl/\GM w c K how one (ae 18 pos e m name (J (aS g) (O ks) kc)) kind n wr I 0 [] next fk fa)
 case atStart=>exact⟨0,Q,Q,zL _,N⟩
 case round=>
  clear N;obtain⟨a,P,rfl,aa,b⟩:=hrel;have ab:Hid (gk=O ks - a):=P;clear P;have ac:=λt=>cell_of_row wr _ t _ 46 (0,0) b.nb;have ad:E (U w)<E (U wr):=(gE b.nb).1;have af:=b.tb.cell;have ag:=b.tb.fz;have ah:=b.tb.lt;have aj:=b.zb.cell;have ak:=b.zb.fz;have al:=b.zb.lt;by_cases u:a<nl
  ·obtain⟨v,ao,ap,aq,ar,au,av,aw,x,-,y,ax,i,k,-⟩:=F.out.eH a oM;obtain rfl:g=x:=sU y;obtain rfl:=k u;have ay:(a:Int)<(O ks:Int):=oM;have az:wr.cell? ⟨g,a*11,I⟩=some (vN 19):=(b.k.cell (p:=⟨g,a*11,I⟩) (by show g<_;omega) (by show g≠c;omega)).trans (i 0 dC);have aA:g<E (U wr):=oM;clear i;go_wp2_with fail;go_roundg (O ks - (a+1))
   case measure=>rw[ab.out];omega
   case rel=>exact⟨a+1,Q,by go_num,u,b⟩
  ·obtain rfl:nl=a:=oM;clear u aa;obtain⟨v,ao,ap,aq,ar,au,av,aw,x,-,y,ax,i,-,k⟩:=F.out.eH nl S;obtain rfl:g=x:=sU y
   have aO:(v==19)=false:=by
    have:=k (lR _);have aP:=this.1;have aQ:=this.2;exact eF oM
   have ay:(nl:Int)<(O ks:Int):=oM;have az:wr.cell? ⟨g,nl*11,I⟩=some (vN v):=(b.k.cell (p:=⟨g,nl*11,I⟩) (by show g<_;omega) (by show g≠c;omega)).trans (i 0 dC);have aA:g<E (U wr):=oM;clear i k;go_wp2_with (go_at_call 89;refine(ft b.c _ _).mono ?_;rintro aR R ⟨aT,aU,rfl,aB,aC,-⟩;have d:=b.step aC aB;have ac:=λt=>cell_of_row R _ t _ 46 (0,0) d.nb;have ad:E (U w)<E (U R):=(gE d.nb).1;have af:=d.tb.cell;have ag:=d.tb.fz;have ah:=d.tb.lt;have aj:=d.zb.cell;have ak:=d.zb.fz;have al:=d.zb.lt)
   all_goals
    go_light;exact eZ X.out V d _ Q Q
theorem rH {h:Nat} (u:bZ h) {w:World} {c:Nat} {K:CK} {M:MK} {T:Nat} {k:Nat->Prop} {v l B0:Nat} {how next one fk fa:Int} (o:Cx w c K M T k v l) (j:bP w c K how next one fk fa) (ap:B0<=c) {pos e m:Int} {name:ByteArray} {ko:OA} {kc nl:Nat} {ks:VV} (f:GN h B0 w ko kc ks nl) {kind n:Int} (x:(kind=4->0<=n/\n<(O M.ds:Int))/\kind≠5/\kind≠6/\kind≠7) (q:Nat) (y:Int) (hl:q<=6100) (aq:¬nl<O ks) (ar:((nl:Int) !=0)=true) (au:((nl:Int) !=(q:Int))=false) (av:((O ks:Int) - (nl:Int) !=y)=true):
 Calls Tryz.prog 90 #[.pointer (some ⟨c,0,I⟩),.agg (ae 18 pos e m name (J ko (O ks) kc)),.agg (ai kind n (J I 0 0) (J I 0 0)),.int .i64 q,.int .i64 y] w (bS w c K how one k (O M.ds) ((1+(ks.map (aG h w)).sum)*l)):=by
 have aw:Hid (bZ h):=@u;clear u;have ax:=f.km;have ay:=f.uF;have az:=f.tK;have N:=o.z1;have P:=j.lt;have aA:Hid (Cx w c K M T (λz=>k z/\z<E (U w)) v l):=o.low;have aB:Hid (bP w c K how next one fk fa):=j;have R:Hid (GN h B0 w ko kc ks nl):=f;obtain⟨r,A,B,C⟩:=np w (Ob (ae 18 pos e m name (J ko (O ks) kc)) 46) (Ob (ai kind n (J I 0 0) (J I 0 0)) 39) (Ob dF 39);have D:GM w c K how one (ae 18 pos e m name (J ko (O ks) kc)) kind n (((w.alloc (Ob (ae 18 pos e m name (J ko (O ks) kc)) 46)).alloc (Ob (ai kind n (J I 0 0) (J I 0 0)) 39)).alloc (Ob dF 39)) I 0 [] next fk fa:=⟨Kp.aq r,j.below r,P,A,B,C,World.ownsRow_nil _ _ _ _⟩;clear r A B C o j f;have S:Hid ((kind=4->0<=n/\n<(O M.ds:Int))/\kind≠5/\kind≠6/\kind≠7):=x;clear x;go_enter Tryz.func90,Tryz.ntmps90
 go_wp2_with fail;go_loopg [11] (O ks) (λV W wr=>∃a:Nat,V=O ks - a/\W=vN a/\a<=nl/\GM w c K how one (ae 18 pos e m name (J ko (O ks) kc)) kind n wr I 0 [] next fk fa)
 case atStart=>exact⟨0,Q,Q,zL _,D⟩
 case round=>
  clear D;obtain⟨a,F,rfl,X,b⟩:=hrel;have Y:Hid (gk=O ks - a):=F;clear F;have Z:=λs=>cell_of_row wr _ s _ 46 (0,0) b.nb;have aa:E (U w)<E (U wr):=(gE b.nb).1;have ab:=b.tb.cell;have ac:=b.tb.fz;have ad:=b.tb.lt;have af:=b.zb.cell;have ag:=b.zb.fz;have ah:=b.zb.lt;by_cases t:a<nl
  ·obtain⟨aC,aD,aE,aF,aH,aI,aJ,aK,i,-,aj,aL,G,ak,-⟩:=R.out.eH a oM;subst aj;obtain rfl:=ak t;have H:(a:Int)<(O ks:Int):=oM;have aM:wr.cell? ⟨i,a*11,I⟩=some (vN 19):=(b.k.cell (p:=⟨i,a*11,I⟩) (by show i<_;omega) (by show i≠c;omega)).trans (G 0 dC);have aN:i<E (U wr):=oM;clear G;go_wp2_with fail;go_roundg (O ks - (a+1))
   case measure=>rw[Y.out];omega
   case rel=>exact⟨a+1,Q,by go_num,t,b⟩
  ·obtain rfl:nl=a:=oM;clear t X;have H:¬(nl:Int)<(O ks:Int):=oM;have aO:decide ((nl:Int)<(O ks:Int))=false:=sU H;go_wp2_with (go_at_call 89;refine(ft b.c _ _).mono ?_;rintro aP L ⟨aQ,aR,rfl,al,ao,-⟩;have d:=b.step ao al;have Z:=λs=>cell_of_row L _ s _ 46 (0,0) d.nb;have aa:E (U w)<E (U L):=(gE d.nb).1;have ab:=d.tb.cell;have ac:=d.tb.fz;have ad:=d.tb.lt;have af:=d.zb.cell;have ag:=d.zb.fz;have ah:=d.zb.lt)
   all_goals
    go_light;exact eZ S.out N d _ Q Q
end Go.Proofs.YtcnnibahjmekdaaGreat
