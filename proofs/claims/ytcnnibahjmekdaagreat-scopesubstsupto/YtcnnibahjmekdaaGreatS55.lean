/- Proved: holdfastlaw.ScopeSubsts answers true, and leaves its arguments as they were, whatever text and numbers it is called with: the program and the document put the same types in the place of type parameters, and call the same types the same. Condition: the arguments hold together at most 1048576 values and letters. -/
import Derived.Test.YtcnnibahjmekdaaGreatRows
import Derived.ProofKit
import Derived.OpenShut
import Derived.JoinedCond
import Derived.SizedLaws
import Derived.ChangeMaps5
import Derived.Test.YtcnnibahjmekdaaGreatS52
import Derived.Test.YtcnnibahjmekdaaGreatS53
import Derived.Test.YtcnnibahjmekdaaGreatS54
namespace Go.Proofs.YtcnnibahjmekdaaGreat
open Go.RowKit
open Value renaming slice→J
open List renaming length→O
open Option renaming none→I
open World renaming heap→U
open _root_.Array renaming size→E
open Obj renaming cells→Ob
set_option linter.all false
set_option maxRecDepth 100000
set_option maxHeartbeats 0
theorem yb (s:ByteArray) (w:World) (aV:s.size<=maxLen):Calls Tryz.prog 4 #[.string s] w (gD w):=by
 obtain⟨ap,ab,ac⟩:=eI w (Ob (fD (J I 0 0) (J I 0 0) (J I 0 0) (J I 0 0) (J I 0 0) 0 (J I 0 0)) 30) (Ob #[vN 0,vN 0] 33);obtain⟨f,ad⟩:∃f,f=(w.alloc (Ob (fD (J I 0 0) (J I 0 0) (J I 0 0) (J I 0 0) (J I 0 0) 0 (J I 0 0)) 30)).alloc (Ob #[vN 0,vN 0] 33):=⟨_,Q⟩;rw[<-ad] at ap ab ac;have aW:Hid (Calls Tryz.prog 12 #[.string s] f (iw f)):=wK s f aV;have aX:E (U f)=E (U w)+2:=by rw[ad];simp
 go_enter Tryz.func4,Tryz.ntmps4
 go_upto_region 1 with fail
 generalize hq:World.alloc (World.alloc w _) _=aY;obtain rfl:f=aY:=ad.trans hq;clear hq ad;go_upto_region 2 with(go_at_call 12;refine aW.out.mono ?_;rintro bt i ⟨n,pos,o,p,q,r,t,u,j,aq,rfl,v,az⟩)
 obtain⟨k,af,ag⟩:=eI i (Ob (ae n pos o p q (J r t u)) 46) (Ob #[vN j,vN aq] 33);generalize hq:World.alloc (World.alloc i _) _=a;have aA:(i.alloc (Ob (ae n pos o p q (J r t u)) 46)).alloc (Ob #[vN j,vN aq] 33)=a:=hq;rw[aA] at k af ag;have aZ:=k.size;have a0:=v.size;clear hq aA;obtain⟨x,aB⟩:∃x,x=E (U i):=⟨_,Q⟩;obtain⟨y,aC⟩:∃y,y=E (U i)+1:=⟨_,Q⟩;rw[<-aC] at ag⊢;rw[<-aB] at af⊢;obtain⟨d,aD⟩:∃d,d=E (U w):=⟨_,Q⟩;obtain⟨c,aE⟩:∃c,c=E (U w)+1:=⟨_,Q⟩;rw[<-aE] at ac⊢;rw[<-aD] at ab⊢;have z:a.heap[d]? =some (Ob (fD (J I 0 0) (J I 0 0) (J I 0 0) (J I 0 0) (J I 0 0) 0 (J I 0 0)) 30 (0,0)):=(k.block _ oM).trans ((v.block _ oM).trans ab);have A:a.heap[c]? =some (Ob #[vN 0,vN 0] 33 (0,0)):=(k.block _ oM).trans ((v.block _ oM).trans ac);have ar:Below (E (U w)) w a:=(ap.trans (v.mono oM)).trans (k.mono oM);have aF:d≠c:=oM;have a1:c≠d:=oM;have bu:d≠x:=oM;have bv:c≠x:=oM;have bw:d≠y:=oM;have bx:c≠y:=oM;have aH:E (U w)<=d:=oM;have aI:E (U w)<=c:=oM
 have aJ:Hid (j=0->n=0/\∃h,isNode (λl=>l<E (U a)) True (h+6) a (ae n pos o p q (J r t u)).toList/\aG (h+6) a (ae n pos o p q (J r t u)).toList<=96100):=λah=>by
  obtain⟨au,⟨h,ai⟩,aj⟩:=az ah;have aK:al (λl=>l<E (U i)) i a:=λl a2 _=>k.block l a2;have aL:=isNode.inside _ _ ai;have a3:=isNode.inside _ _ (isNode.frame aK _ _ aL);have a4:=aQ aK _ _ aL (h+6);exact⟨au,h,a3.le _ oM,by rw[a4];exact aj _⟩
 have a5:=λb=>cell_of_row a _ b _ 33 (0,0) ag;have a6:y<E (U a):=(gE ag).1;have a7:=λb=>cell_of_row a _ b _ 46 (0,0) af;have a8:x<E (U a):=(gE af).1;have aM:=λb=>cell_of_row a _ b _ 30 (0,0) z;have aN:=λb=>frozen_of_row a d b _ 30 z;have av:d<E (U a):=(gE z).1;have aO:=λb=>cell_of_row a _ b _ 33 (0,0) A;have aP:=λb=>frozen_of_row a c b _ 33 A;have aw:c<E (U a):=(gE A).1;clear aB aC aD aE ap ab ac k v az aX aZ a0
 cases aR:(j==0)
 ·have ax:j≠0:=sU aR;have a9:Hid (∀m:Act,m.defers=[]->m.tmps.getD 2 undef=.pointer (aS d)->m.tmps.getD 3 undef=.pointer (aS c)->bodyPost Tryz.prog Tryz.f4 (gD w) .ret m (jU (jT a d (J I 0 0) (J I 0 0) (J I 0 0) (J I 0 0) (J I 0 0) (vN 0) (J I 0 0)) c (vN j) (vN aq)).drew):=λm a' ba bb=>tN Tryz.results4 z A aF ar aH aI ax m a' ba bb;go_wp2_with fail;go_region
  all_goals
   go_wp2_with fail;exact a9.out _ Q Q Q
 ·have ax:j=0:=sU aR;obtain⟨au,h,ai,aj⟩:=aJ.out ax;subst au;have bc:Hid (Calls Tryz.prog 13 #[.agg (ae 0 pos o p q (J r t u))] a (gD a)):=vu ai aj;clear ai aj aJ;go_wp2_with (go_at_call 13;refine bc.out.mono ?_;rintro bz e ⟨B,ml,C,D,F,G,H,K,L,M,N,P,R,S,T,V,W,X,Y,ak,ao,rfl,ay,bd⟩;have Z:e.heap[d]? =some (Ob (fD (J I 0 0) (J I 0 0) (J I 0 0) (J I 0 0) (J I 0 0) 0 (J I 0 0)) 30 (0,0)):=(ay.block _ av).trans z;have aa:e.heap[c]? =some (Ob #[vN 0,vN 0] 33 (0,0)):=(ay.block _ aw).trans A;clear a5 a6 a7 a8 aM aN av aO aP aw;have aM:=λb=>cell_of_row e _ b _ 30 (0,0) Z;have aN:=λb=>frozen_of_row e d b _ 30 Z;have av:d<E (U e):=(gE Z).1;have aO:=λb=>cell_of_row e _ b _ 33 (0,0) aa;have aP:=λb=>frozen_of_row e c b _ 33 aa;have aw:c<E (U e):=(gE aa).1)
  have bf:=iB Z (J B ml C) (J D F G) (J H K L) (J M N P) (J R S T) (vN V) (J W X Y);have aT:=iC ((dX a1 (J B ml C) (J D F G) (J H K L) (J M N P) (J R S T) (vN V) (J W X Y)).trans aa) (vN ak) (vN ao);have bg:Below (E (U w)) w e:=ar.trans (ay.mono ar.size)
  have bh:Hid (gD w (.returned (.tuple #[.agg (fD (J B ml C) (J D F G) (J H K L) (J M N P) (J R S T) V (J W X Y)),.agg #[vN ak,vN ao]])) (jU (jT e d (J B ml C) (J D F G) (J H K L) (J M N P) (J R S T) (vN V) (J W X Y)) c (vN ak) (vN ao))):=by
   refine⟨B,ml,C,D,F,G,H,K,L,M,N,P,R,S,T,V,W,X,Y,ak,ao,Q,gB (gA bg aH _ _ _ _ _ _ _) aI _ _,λah=>?_⟩;obtain⟨bi,bj,bk,bl,bm,bn,bo,bp,bq,rfl,rfl,rfl,br⟩:=bd ah;subst ah;subst bi;refine⟨Q,bj,bk,bl,bm,bn,bo,bp,bq,Q,Q,Q,br.move Z Q (λl bs=>?_) sQ⟩;by_cases aU:l=c
   ·rw[aU];exact aT.trans aa.symm
   ·exact(dY aU _ _).trans (dX bs _ _ _ _ _ _ _)
  go_light;exact bodyPost_ret (gx Tryz.results4 Q Q ((dY aF _ _).trans bf) aT) Q bh.out
section
variable{w:World}
theorem PG.below {W:World} {D H:Nat} {f:OA} {i:Nat} {j:List Dd} {ivo:OA} {ivc:Nat} {k:VV} {l:OA} {m:Nat} {n:VV} {o q r:Nat} (p:PG w D H f i j ivo ivc k l m n o q r) (s:Below (E (U w)) w W):PG W D H f i j ivo ivc k l m n o q r:=by
 have b:al (λa=>a<E (U w)) w W:=λa t _=>s.block a t;have c:=s.size;have d:∀a,a<E (U w)->a<E (U W)->a<E (U W):=λa _ h=>h;obtain⟨u,v,x,y⟩:=p.jF;exact⟨(p.da.frame b c).weaken d,(p.im.frame b c).weaken d,(p.fn.frame b c).weaken d,⟨u,v,x,λz A B C F=>((y z A B C F).frame b c).weaken d⟩,p.lO.imp (λG K e=>(e.frame b c).weaken d),p.lp.imp (λG K e=>(e.frame b c).weaken d),p.bB,p.h1,p.sum⟩
theorem xF (p:Prop):Hid p=p:=rfl
theorem sq {wr:World} {wo:OA} {wc:Nat} {vs:VV} (q:wr.ownsRow (E (U w)) 39 4 (J wo (O vs) wc) (O vs) vs.flatten) (c:Below (E (U w)) w wr) (e f:Int) (i:OA) (j k:Nat) (l:OA) (m n:Nat) (hl:O vs<=1048577) (r:TypeId) {ad:Nat} (x:ad=E (U wr)):
 ∃o b,(Builtin.append_ #[36,36] r #[J wo (O vs) wc,J (aS ad) 1 1]).run Tryz.prog (wr.alloc (Ob (ai e f (J i j k) (J l m n)) 39))=.ok o b/\∃s t,o=J s (O vs+1) t/\b.ownsRow (E (U w)) 39 4 (J s (O vs+1) t) (O vs+1) (vs++[(ai e f (J i j k) (J l m n)).toList]).flatten/\Below (E (U w)) w b/\E (U wr)<=E (U b)/\∀a,a<E (U wr)->(Value.slice wo (O vs) wc).ownBlock≠some a->b.heap[a]? =wr.heap[a]? :=by
 have one:∀u∈(ai e f (J i j k) (J l m n)).toList,u.oneCell'=true:=by
  intro u v;simp at v;rcases v with rfl|rfl|rfl|rfl<;>rfl
 obtain⟨o,b,y,d⟩:=fg (W:=wr) Tryz.underlying36 jD Q dC q c.size (ai e f (J i j k) (J l m n)) Q one (by unfold maxLen;omega) oM r x;obtain⟨z,A,rfl⟩:=d.shape;have B:=d.row;exact⟨_,b,y,z,A,Q,by rw[List.flatten_append];simpa using B,d.below (c.alloc c.size _) (by simp;have:=c.size;omega) (λa p=>(q.lt a p).1),lT sQ d.grown.size,λa c C=>(d.grown.block a (by simp;omega) (λp=>C p.symm)).trans (Below.heap_alloc _ _ _ c)⟩
theorem zn (s:ByteArray) (w:World) (dh:s.size<=maxLen) (i:Int) {xo:OA} {xc:Nat} {xs:List Int} (A:∀j,j<O xs->∃(ak ax:Nat) (x:Int),xo=some ⟨ak,ax,I⟩/\ak<E (U w)/\w.cell? ⟨ak,ax+j,I⟩=some (vN x)) (hl:O xs<=1048576):Calls Tryz.prog 3 #[.string s,vN i,J xo (O xs) xc] w (λy w'=>y=.returned (.bool true)/\Below (E (U w)) w w'):=by
 have di:Hid (∀j,j<O xs->∃(ak ax:Nat) (x:Int),xo=some ⟨ak,ax,I⟩/\ak<E (U w)/\w.cell? ⟨ak,ax+j,I⟩=some (vN x)):=A;clear A;go_enter Tryz.func3,Tryz.ntmps3
 go_upto_region 2 with(go_at_call 4;refine(yb s w dh).mono ?_;rintro bg aT ⟨bv,ml,bw,bx,cc,bz,bA,bB,bD,bF,cd,bG,bH,ce,bI,bJ,bK,bL,bM,aF,a,rfl,bN,cf⟩)
 obtain⟨aU,aV,aW⟩:=eI aT (Ob (fD (J bv ml bw) (J bx cc bz) (J bA bB bD) (J bF cd bG) (J bH ce bI) bJ (J bK bL bM)) 30) (Ob #[vN aF,vN a] 33);generalize hq:World.alloc (World.alloc aT _) _=ay;have cg:(aT.alloc (Ob (fD (J bv ml bw) (J bx cc bz) (J bA bB bD) (J bF cd bG) (J bH ce bI) bJ (J bK bL bM)) 30)).alloc (Ob #[vN aF,vN a] 33)=ay:=hq;rw[cg] at aU aV aW;have ch:=aU.size;have dj:=bN.size;clear hq cg;obtain⟨bO,ci⟩:∃bO,bO=E (U aT):=⟨_,Q⟩;obtain⟨bP,cj⟩:∃bP,bP=E (U aT)+1:=⟨_,Q⟩;rw[<-cj] at aW⊢;rw[<-ci] at aV⊢;have bh:Below (E (U w)) w ay:=bN.trans (aU.mono oM);have dk:=λZ=>cell_of_row ay _ Z _ 33 (0,0) aW;have dl:bP<E (U ay):=(gE aW).1;have dm:=λZ=>cell_of_row ay _ Z _ 30 (0,0) aV;have dn:bO<E (U ay):=(gE aV).1;clear ci cj
 cases dp:(aF==0)
 ·go_wp2_with fail;go_ret;exact⟨Q,bh⟩
 ·have dq:aF=0:=sU dp;obtain⟨eq,aa,d,dr,ds,dt,ck,cl,cm,rfl,rfl,rfl,bQ⟩:=cf dq;have du:Hid (Calls Tryz.prog 5 #[.agg (fD (J bv ml bw) (J bx (O dr) bz) (J bA bB bD) (J bF (O ds) bG) (J bH (O dt) bI) bJ (J bK bL bM))] ay (uu ay aa d (1+3*cm+ck+cl))):=vZ (bQ.below aU) _ _ _ _;have dv:Hid (1+3*cm+ck+cl<=2199023255552):=bQ.sum;clear bQ cf aU bN dj ch;go_upto_region 5 with(go_at_call 5;refine du.out.mono ?_;rintro er k ⟨cn,es,aX,rfl,aG⟩)
  have bR:Hid (∀{c:World},Below (E (U k)) k c->∀L,L<O aX->∃(g:Nat) (m n:Int) (o:OA) (p q:Nat) (r:OA) (t u:Nat),cn=some ⟨g,0,I⟩/\g<E (U c)/\c.cell? ⟨g,L*4,I⟩=some (vN m)/\c.cell? ⟨g,L*4+1,I⟩=some (vN n)/\c.cell? ⟨g,L*4+2,I⟩=some (J o p q)/\c.cell? ⟨g,L*4+3,I⟩=some (J r t u)/\af (λb=>b<E (U k)) (Gd aa) d c (ai m n (J o p q) (J r t u)).toList):=λ{c} e L bi=>by
   obtain⟨x,A⟩:∃x,aX[L]? =some x:=⟨_,gG bi⟩;have aI:=aG.all x (mG A);obtain⟨m,n,o,p,q,r,t,u,rfl⟩:=af.cells _ aI;obtain⟨g,dw,y,bS,-,ao⟩:=aL (ag aG.row (w':=c) (λb _ hl=>e.block b hl)) sQ (λaY az=>by obtain⟨_,_,_,_,_,_,_,_,rfl⟩:=af.cells _ (aG.all aY az);rfl) A;refine⟨g,m,n,o,p,q,r,t,u,by simp at y;exact y.1,bS,ao 0 dC,ao 1 dC,ao 2 dC,ao 3 dC,?_⟩;have ch:E (U ay)<=E (U k):=aG.below.size;exact af.frame (λb hl _=>e.block b hl) e.size _ _ (af.weaken (λb e _=>by omega) _ _ aI)
  have co:1<=O aX:=aG.one;have cp:O aX<=2199023255552:=lT aG.le dv.out;have bT:Below (E (U w)) w k:=bh.trans (aG.below.mono bh.size);obtain⟨g,et,eu,_,_,_,_,_,_,dx,dz,-⟩:=bR.out (Below.refl _ k) 0 oM;obtain rfl:cn=some ⟨g,0,I⟩:=dx;clear aG bh dk dl dm dn aV aW;generalize O aX=cq at*;go_upto_region 6 with(go_at_call 6;refine(vI _ _ co cp).mono ?_;rintro ev aZ ⟨L,rfl,bi,aJ⟩;replace aJ:=aJ.symm;subst aJ;have ew:(L:Int)<(cq:Int):=oM;have ex:(0:Int)<=(L:Int):=oM;obtain⟨dA,m,n,o,p,q,r,t,u,cr,dB,dD,dE,dF,dG,cs⟩:=bR.out (Below.refl _ k) L bi;obtain rfl:g=dA:=(sU cr))
  obtain⟨aO,bk⟩:=al1 k (Ob (ai m n (J o p q) (J r t u)) 39);obtain⟨ae,bU⟩:∃ae,ae=k.alloc (Ob (ai m n (J o p q) (J r t u)) 39):=⟨_,Q⟩;rw[<-bU] at aO bk;have ct:k.alloc (Ob #[vN m,vN n,J o p q,J r t u] 39)=ae:=bU.symm;rw[ct];clear bU ct;have dH:=aO.size;obtain⟨aH,cu⟩:∃aH,aH=E (U k):=⟨_,Q⟩;rw[<-cu] at bk⊢;have dI:aH<E (U ae):=(gE bk).1;have cv:Below (E (U w)) w ae:=bT.trans (aO.mono bT.size);have cw:Hid (af (λb=>b<E (U k)) (Gd aa) d ae (ai m n (J o p q) (J r t u)).toList):=af.frame (λb hl _=>aO.block b hl) aO.size _ _ cs;have aK:Hid (∀{c:World},Below (E (U ae)) ae c->Below (E (U w)) w c/\Below (E (U k)) k c/\c.heap[aH]? =some (Ob (ai m n (J o p q) (J r t u)) 39 (0,0))):=λ{c} e=>⟨cv.trans (e.mono cv.size),aO.trans (e.mono dH),(e.block _ dI).trans bk⟩;clear dD dE dF dG cs cr dz dB bT cu;go_wp2_with fail;go_loopg [11,13,36] (O xs) (λbV dJ _ bW wr=>∃(j:Nat) (aA:OA) (aB:Nat) (f:VV),bV=O xs - j/\bW=vN j/\dJ=J aA (O f) aB/\j<=O xs/\Hid (O f=j)/\wr.ownsRow (E (U ae)) 39 4 (J aA (O f) aB) (O f) f.flatten/\Below (E (U ae)) ae wr/\Hid (∀x∈f,af (λb=>b<E (U k)) (Gd aa) d wr x))
  case atStart=>exact⟨0,I,0,[],Q,Q,Q,zL _,Q,World.ownsRow_nil _ _ _ _,Below.refl _ _,λx A=>by simp at A⟩
  case round=>
   obtain⟨j,aA,aB,f,a0,rfl,rfl,ey,bY,bl,e,bZ⟩:=hrel;have dK:Hid (gk=O xs - j):=a0;clear a0;by_cases cx:j<O xs
   ·have dL:(j:Int)<(O xs:Int):=oM;obtain⟨ak,ax,x,dM,cz,dN⟩:=di.out j cx;obtain rfl:xo=some ⟨ak,ax,I⟩:=dM;have ez:wr.cell? ⟨ak,ax+j,I⟩=some (vN x):=(World.cell?_of_block (w:=w) (a:=⟨ak,ax+j,I⟩) ((aK.out e).1.block ak cz)).trans dN;have eA:ak<E (U wr):=Nat.lt_of_lt_of_le cz (aK.out e).1.size;have cA:O f<=1048577:=oH bY.out;have eB:O xs<=1048576:=hl
    go_wp2_with (first
     |(go_at_call 6;refine(vI _ _ co cp).mono ?_;rintro eC aZ ⟨cB,rfl,dO,aJ⟩;replace aJ:=aJ.symm;subst aJ;have eD:(cB:Int)<(cq:Int):=oM;obtain⟨M,bm,bn,B,C,D,F,H,K,bo,cC,cD,cE,cF,cG,a1⟩:=bR.out (aK.out e).2.1 cB dO;obtain rfl:g=M:=(sU bo);have dP:Hid (af (λb=>b<E (U k)) (Gd aa) d wr (ai bm bn (J B C D) (J F H K)).toList):=a1;clear a1 bo)
     |(at_builtin;refine bC 36 (v:=J aA (O f) aB) (xv:=J (aS (E (U wr))) 1 1) rQ rQ rQ rQ (sq bl e bm bn B C D F H K cA _ Q) ?_;rintro dQ dR ⟨dS,dT,rfl,dU,cH,cI,-⟩))
    have cJ:al (λb=>b<E (U k)) wr dR:=λb hl _=>(cH.block b oM).trans (e.block b oM).symm;have b0:O (f++[(ai bm bn (J B C D) (J F H K)).toList])=O f+1:=by rw[List.length_append];rfl
    go_roundg (O xs - (j+1))
    case measure=>rw[dK.out];omega
    case rel=>
     refine⟨j+1,dS,dT,f++[(ai bm bn (J B C D) (J F H K)).toList],Q,by go_num,by rw[b0],cx,by rw[xF,b0,bY.out],by rw[b0];exact dU,cH,λaY az=>?_⟩;rcases List.mem_append.1 az with az|az
     ·exact af.frame cJ cI _ _ (bZ.out aY az)
     ·rw[List.mem_singleton.1 az];exact af.frame cJ cI _ _ dP.out
   ·have dL:¬(j:Int)<(O xs:Int):=oM;have cA:O f<=1048576:=oH bY.out;have b1:=(aK.out e).2.2;have b2:=λZ=>cell_of_row wr _ Z _ 39 (0,0) b1;have dV:aH<E (U wr):=(gE b1).1;have dW:∀aF cK nl b3,Gd aa aF cK nl b3->aF=5->b3=0:=λaF cK nl b3 dX=>dX.2.2.2;have dY:al (λb=>b<E (U k)) ae wr:=λb hl _=>e.block b oM;have b4:Hid (af (λb=>b<E (U k)) (Gd aa) d wr (ai m n (J o p q) (J r t u)).toList):=af.frame dY e.size _ _ cw.out;have cL:Hid (ro wr (λ_=>True) 4 (J aA (O f) aB) (O f) f.flatten):=ro.bJ bl (λ_ _=>trivial);have b5:Hid (∀x∈f,af (λb=>b<E (U k)) (Gd aa) d wr x):=bZ.out;have dZ:Hid (Calls Tryz.prog 7 #[.agg (ai m n (J o p q) (J r t u)),J aA (O f) aB] wr (cy wr (λb=>b<E (U k)) (Gd aa) (d+d) (bX d wr (f.map (enc d wr)) (ai m n (J o p q) (J r t u)).toList))):=mi dW d b4.out cL.out b5.out;go_upto_region 13 with(go_at_call 7;refine dZ.out.mono ?_;rintro eE ah ⟨P,R,S,T,V,W,X,Y,rfl,cM,d0,cN⟩)
    obtain⟨aM,a2⟩:=al1 ah (Ob (ai P R (J S T V) (J W X Y)) 39);generalize hqa:World.alloc ah _=z;have cO:ah.alloc (Ob (ai P R (J S T V) (J W X Y)) 39)=z:=hqa;rw[cO] at aM a2;clear hqa cO;obtain⟨ab,cP⟩:∃ab,ab=E (U ah):=⟨_,Q⟩;rw[<-cP] at a2⊢;have d1:=cN.size;have eF:=aM.size;have cQ:ab<E (U z):=(gE a2).1;have cR:Below (E (U wr)) wr z:=cN.trans (aM.mono d1);have b6:Hid (∀{c:World},Below (E (U z)) z c->Below (E (U wr)) wr c):=λ{c} e=>cR.trans (e.mono cR.size);have b7:Hid (∀{c:World},Below (E (U z)) z c->Below (E (U z)) z c/\(Ce c aH (ai m n (J o p q) (J r t u)))/\(Ce c ab (ai P R (J S T V) (J W X Y)))):=λ{c} e=>⟨e,λZ=>cell_of_row c _ Z _ 39 (0,0) (((b6.out e).block _ dV).trans b1),λZ=>cell_of_row c _ Z _ 39 (0,0) ((e.block _ cQ).trans a2)⟩
    have cS:Hid (∀{c:World},Below (E (U z)) z c->al (λb=>b<E (U k)\/E (U wr)<=b) ah c/\E (U ah)<=E (U c)):=λ{c} e=>by
     have cT:Below (E (U ah)) ah c:=aM.trans (e.mono aM.size);exact⟨λb _ hl=>cT.block b hl,cT.size⟩
    have cU:Hid (∀{c:World},al (λb=>b<E (U k)\/E (U wr)<=b) ah c->E (U ah)<=E (U c)->af (λb=>b<E (U k)\/E (U wr)<=b) (Gd aa) (d+d) c (ai P R (J S T V) (J W X Y)).toList/\enc (d+d) c (ai P R (J S T V) (J W X Y)).toList=bX d wr (f.map (enc d wr)) (ai m n (J o p q) (J r t u)).toList):=λ{c} aq cV=>⟨af.frame aq cV _ _ cM,(bj aq cV _ _ cM _).trans d0⟩
    have d2:Hid (∀{c:World},Below (E (U z)) z c->Calls Tryz.prog 9 #[.agg (ai m n (J o p q) (J r t u)),J aA (O f) aB] c (cy c (λb=>b<E (U k)) (Gd aa) (d+d) (bX d wr (f.map (enc d wr)) (ai m n (J o p q) (J r t u)).toList))):=λ{c} e=>by
     have ap:=b6.out e;have aq:al (λb=>b<E (U k)) wr c:=λb _ hl=>ap.block b hl;have ao:=sB (G:=Gd aa) (hw:=d) d trivial (af.frame aq ap.size _ _ b4.out) (cL.out.frame (λb _ hl=>ap.block b hl) ap.size) (λx A=>af.frame aq ap.size _ _ (b5.out x A));have bg:f.map (enc d c)=f.map (enc d wr):=List.map_congr_left (λx A=>bj aq ap.size _ _ (b5.out x A) _);rw[bg,eU aq ap.size _ _ _ b4.out] at ao;exact ao
    clear b2;have d3:Hid (E (U wr)<=ab):=by show _<=_;omega
    clear cP
    have d4:Hid (∀{N:World} {a3 a4:Int} {a5:OA} {a6 a7:Nat} {a8:OA} {a9 a':Nat} {cW:Nat->Prop},Below (E (U z)) z N->af cW (Gd aa) (d+d) N (ai a3 a4 (J a5 a6 a7) (J a8 a9 a')).toList->enc (d+d) N (ai a3 a4 (J a5 a6 a7) (J a8 a9 a')).toList=bX d wr (f.map (enc d wr)) (ai m n (J o p q) (J r t u)).toList->Calls Tryz.prog 8 #[.agg (ai a3 a4 (J a5 a6 a7) (J a8 a9 a')),.agg (ai P R (J S T V) (J W X Y))] N (λy w'=>y=.returned (.bool true)/\Below (E (U N)) N w')):=λ{N a3 a4 a5 a6 a7 a8 a9 a' cW} e aI d5=>by
     obtain⟨ba,M⟩:=cU.out (cS.out e).1 (cS.out e).2;refine(lS (d+d) (d+d) aI ba).mono ?_;rintro y w' ⟨b,rfl,aC,bb⟩;obtain rfl:b=true:=aC.2 (d5.trans M.symm);exact⟨Q,bb⟩
    go_cut [59] (λd6 aZ=>d6=.bool false/\Below (E (U z)) z aZ)
    case first=>
     go_region_held3 (λc=>Below (E (U z)) z c/\(Ce c aH (ai m n (J o p q) (J r t u)))/\(Ce c ab (ai P R (J S T V) (J W X Y))))
      (first|assumption|exact b7.out ((Below.refl _ _).drew)|exact b7.out cX|exact b7.out bp)
      (first
       |(go_at_call 9;have b8:=(‹Below (E (U z)) z _/\_›).1;refine(d2.out b8).mono ?_;rintro eG eH ⟨a3,a4,a5,a6,a7,a8,a9,a',rfl,d7,d8,d9⟩;have bp:=b8.trans (d9.mono b8.size))
       |(go_at_call 8;refine(d4.out bp d7 d8).mono ?_;rintro eJ eK ⟨rfl,d'⟩;have cX:=bp.trans (d'.mono bp.size)))
     all_goals
      go_wp2_with fail;go_meet;exact⟨Q,cX⟩
    case rest=>
     obtain⟨rfl,bq⟩:=hcut;have ap:=b6.out bq;have cY:=ag bl (w':=wc) (λb _ hl=>ap.block b hl);have aP:Below (E (U ae)) ae wc:=e.trans (ap.mono e.size);have b9:=(aK.out aP).2.2;have b2:=λZ=>cell_of_row wc _ Z _ 39 (0,0) b9;have ea:aH<E (U wc):=(gE b9).1;have eb:=ap.size;have eL:=bq.size
     have cZ:Hid (∀x∈f++[(ai m n (J o p q) (J r t u)).toList],af (λb=>b<E (U k)) (Gd aa) d wc x):=λx A=>by
      have aq:al (λb=>b<E (U k)) wr wc:=λb hl _=>ap.block b oM;rcases List.mem_append.1 A with A|A
      ·exact af.frame aq eb _ _ (bZ.out x A)
      ·rw[List.mem_singleton.1 A];exact af.frame (λb hl _=>aP.block b oM) aP.size _ _ cw.out
     go_wp2_with (at_builtin;refine bC 36 (v:=J aA (O f) aB) (xv:=J (aS (E (U wc))) 1 1) rQ rQ rQ rQ (sq cY aP m n o p q r t u oM _ Q) ?_;rintro dQ aw ⟨c0,eM,rfl,c1,b',ec,c2⟩)
     have c3:O (f++[(ai m n (J o p q) (J r t u)).toList])=O f+1:=by rw[List.length_append];rfl
     obtain⟨aj,c4⟩:∃aj,aj=O f+1:=⟨_,Q⟩;have eN:aj<=1048577:=oM
     have ed:Hid (∀{c:World},Below (E (U aw)) aw c->∀L,L<aj->∃(M:Nat) (ac ad:Int) (B:OA) (C D:Nat) (F:OA) (H K:Nat),c0=some ⟨M,0,I⟩/\M<E (U c)/\c.cell? ⟨M,L*4,I⟩=some (vN ac)/\c.cell? ⟨M,L*4+1,I⟩=some (vN ad)/\c.cell? ⟨M,L*4+2,I⟩=some (J B C D)/\c.cell? ⟨M,L*4+3,I⟩=some (J F H K)/\af (λb=>b<E (U k)) (Gd aa) d c (ai ac ad (J B C D) (J F H K)).toList):=λ{c} aD L bi=>by
      obtain⟨x,A⟩:∃x,(f++[(ai m n (J o p q) (J r t u)).toList])[L]? =some x:=⟨_,gG oM⟩;have aI:=cZ.out x (mG A);obtain⟨ac,ad,B,C,D,F,H,K,rfl⟩:=af.cells _ aI;obtain⟨M,dw,y,bS,-,ao⟩:=aL (ag c1 (w':=c) (λb _ hl=>aD.block b hl)) c3 (λaY az=>by obtain⟨_,_,_,_,_,_,_,_,rfl⟩:=af.cells _ (cZ.out aY az);rfl) A;have aq:al (λb=>b<E (U k)) wc c:=λb hl _=>(aD.block b oM).trans ((b'.block b oM).trans (aP.block b oM).symm);exact⟨M,ac,ad,B,C,D,F,H,K,by simp at y;exact y.1,bS,ao 0 dC,ao 1 dC,ao 2 dC,ao 3 dC,af.frame aq (lT ec aD.size) _ _ aI⟩
     have ee:Hid (∀{c:World},Below (E (U aw)) aw c->al (λb=>b<E (U k)\/E (U wr)<=b) ah c/\E (U ah)<=E (U c)/\c.heap[ab]? =some (Ob (ai P R (J S T V) (J W X Y)) 39 (0,0))/\ab<E (U c)):=λ{c} aD=>by
      have c5:Below (E (U ah)) ah wc:=aM.trans (bq.mono aM.size)
      have c6:∀b,(b<E (U k)\/E (U wr)<=b)->(Value.slice aA (O f) aB).ownBlock≠some b:=λb e y=>by
       have eO:=bl.lt b y;omega
      have ef:E (U wr)<=ab:=d3.out;have eP:=c5.size;have eQ:=aD.size;have c7:wc.heap[ab]? =some (Ob (ai P R (J S T V) (J W X Y)) 39 (0,0)):=(bq.block _ cQ).trans a2;have eg:=(gE c7).1;exact⟨λb e hl=>(aD.block b oM).trans ((c2 b oM (c6 b e)).trans (c5.block b hl)),oM,(aD.block _ oM).trans ((c2 ab eg (c6 ab (.inr ef))).trans c7),oM⟩
     have eh:Hid (∀{c:World},Below (E (U aw)) aw c->Below (E (U w)) w c):=λ{c} aD=>(aK.out b').1.trans (aD.mono (aK.out b').1.size);have c8:(O f:Int)+1=(aj:Int):=oM;rw[<-c4];try rw[c8]
     clear c4 c3 c8;clear c1 cY aP b9 b2 ea;go_loopg [6,16,65] aj (λbV _ _ bW aZ=>∃j:Nat,bV=aj - j/\bW=vN j/\j<=aj/\Below (E (U aw)) aw aZ)
     case atStart=>exact⟨0,Q,Q,zL _,Below.refl _ _⟩
     case round=>
      obtain⟨ar,a0,rfl,eR,br⟩:=hrel;have c9:Hid (gk=aj - ar):=a0;clear a0;by_cases bc:ar<aj
      ·have ei:(ar:Int)<(aj:Int):=oM;obtain⟨M,ac,ad,B,C,D,F,H,K,bo,cC,cD,cE,cF,cG,a1⟩:=ed.out br ar bc;obtain rfl:c0=some ⟨M,0,I⟩:=bo;go_upto_region 18 with fail
       obtain⟨bs,bt⟩:=al1 wr (Ob (ai ac ad (J B C D) (J F H K)) 39);generalize hqz:World.alloc wr _=l;have c':wr.alloc (Ob (ai ac ad (J B C D) (J F H K)) 39)=l:=hqz;rw[c'] at bs bt;clear hqz c';obtain⟨aQ,da⟩:∃aQ,aQ=E (U wr):=⟨_,Q⟩;rw[<-da] at bt⊢;clear da cD cE cF cG cC;have ej:aQ<E (U l):=(gE bt).1;have aE:Below (E (U aw)) aw l:=br.trans (bs.mono br.size);obtain⟨db,ek,el,em⟩:=ee.out aE;obtain⟨ba,-⟩:=cU.out db ek;have M:=af.frame (al.below bs) bs.size _ _ a1
       obtain⟨aN,dc⟩:∃aN:Bool,(aN=true↔bE (d+d) l (ai P R (J S T V) (J W X Y)).toList=bE (d+d) l (ai ac ad (J B C D) (J F H K)).toList):=by
        by_cases dd:bE (d+d) l (ai P R (J S T V) (J W X Y)).toList=bE (d+d) l (ai ac ad (J B C D) (J F H K)).toList
        ·exact⟨true,⟨λ_=>dd,λ_=>rfl⟩⟩
        ·exact⟨false,⟨λy=>absurd y dC,λy=>absurd y dd⟩⟩
       have bu:Hid (∀{N:World},Below (E (U l)) l N->Calls Tryz.prog 10 #[.agg (ai P R (J S T V) (J W X Y)),.agg (ai ac ad (J B C D) (J F H K))] N (λy w'=>y=.returned (.bool aN)/\Below (E (U N)) N w')/\Calls Tryz.prog 11 #[.agg (ai P R (J S T V) (J W X Y)),.agg (ai ac ad (J B C D) (J F H K))] N (λy w'=>y=.returned (.bool aN)/\Below (E (U N)) N w')):=λ{N} e=>by
        have de:=af.frame (al.below e) e.size _ _ ba;have df:=af.frame (al.below e) e.size _ _ M;have bg:=dy (al.below e) e.size _ _ ba (d+d);have en:=dy (al.below e) e.size _ _ M (d+d)
        have dg:∀b:Bool,(b=true↔bE (d+d) N (ai P R (J S T V) (J W X Y)).toList=bE (d+d) N (ai ac ad (J B C D) (J F H K)).toList)->b=aN:=λb aC=>by
         rw[bg,en,<-dc] at aC
         cases b<;>cases aN
         ·rfl
         ·exact absurd (aC.2 Q) dC
         ·exact absurd (aC.1 Q) dC
         ·rfl
        exact⟨(sI (d+d) d de df).mono (by rintro y w' ⟨b,rfl,aC,bb⟩;exact⟨by rw[dg b aC],bb⟩),(o6 (d+d) d de df).mono (by rintro y w' ⟨b,rfl,aC,bb⟩;exact⟨by rw[dg b aC],bb⟩)⟩
       have aR:Hid (∀{c:World},Below (E (U l)) l c->Below (E (U l)) l c/\(Ce c ab (ai P R (J S T V) (J W X Y)))/\(Ce c aQ (ai ac ad (J B C D) (J F H K)))):=λ{c} e=>⟨e,λZ=>cell_of_row c _ Z _ 39 (0,0) ((e.block _ em).trans el),λZ=>cell_of_row c _ Z _ 39 (0,0) ((e.block _ ej).trans bt)⟩;clear dc ba M a1 db
       cases aN
       ·go_region_held3 (λc=>Below (E (U l)) l c/\(Ce c ab (ai P R (J S T V) (J W X Y)))/\(Ce c aQ (ai ac ad (J B C D) (J F H K))))
         (first|assumption|exact aR.out ((Below.refl _ _).drew)|exact aR.out au|exact aR.out av)
         (first
          |(go_at_call 10;refine(bu.out (by first|exact av|exact(Below.refl _ _).drew)).1.mono ?_;rintro eo ca ⟨rfl,bd⟩;have au:Below (E (U l)) l ca:=(by first|exact av.trans (bd.mono av.size)|exact((Below.refl _ _).drew).trans (bd.mono (lR _))))
          |(go_at_call 11;refine(bu.out (by first|exact au|exact(Below.refl _ _).drew)).2.mono ?_;rintro ep cb ⟨rfl,bf⟩;have av:Below (E (U l)) l cb:=(by first|exact au.trans (bf.mono au.size)|exact((Below.refl _ _).drew).trans (bf.mono (lR _)))))
        all_goals
         go_wp2_with fail;go_roundg (aj - (ar+1))
         case measure=>rw[c9.out];omega
         case rel=>first|exact⟨ar+1,Q,by go_num,bc,aE.trans (av.mono aE.size)⟩|exact⟨ar+1,Q,by go_num,bc,aE.trans (au.mono aE.size)⟩
       ·go_region_held3 (λc=>Below (E (U l)) l c/\(Ce c ab (ai P R (J S T V) (J W X Y)))/\(Ce c aQ (ai ac ad (J B C D) (J F H K))))
         (first|assumption|exact aR.out ((Below.refl _ _).drew)|exact aR.out au|exact aR.out av)
         (first
          |(go_at_call 10;refine(bu.out (by first|exact av|exact(Below.refl _ _).drew)).1.mono ?_;rintro eo ca ⟨rfl,bd⟩;have au:Below (E (U l)) l ca:=(by first|exact av.trans (bd.mono av.size)|exact((Below.refl _ _).drew).trans (bd.mono (lR _))))
          |(go_at_call 11;refine(bu.out (by first|exact au|exact(Below.refl _ _).drew)).2.mono ?_;rintro ep cb ⟨rfl,bf⟩;have av:Below (E (U l)) l cb:=(by first|exact au.trans (bf.mono au.size)|exact((Below.refl _ _).drew).trans (bf.mono (lR _)))))
        all_goals
         go_wp2_with fail;go_roundg (aj - (ar+1))
         case measure=>rw[c9.out];omega
         case rel=>first|exact⟨ar+1,Q,by go_num,bc,aE.trans (av.mono aE.size)⟩|exact⟨ar+1,Q,by go_num,bc,aE.trans (au.mono aE.size)⟩
      ·have ei:¬(ar:Int)<(aj:Int):=oM;go_wp2_with fail;go_ret;exact⟨Q,eh.out br⟩
end
section
open Go.ChangeShapes Go.WideShapes Go.ChangeAt Go.RowKit Go.ChangeMaps
theorem zi:ownKnob Tryz.prog.godebug=I:=by kernel_rfl
theorem yd:laidOutB Tryz.prog=true:=by kernel_rfl
theorem xg:Tryz.prog.cellsOf 3=1:=by kernel_rfl
theorem oB {H:Type} (l:List (DataW H)):O l<=Rows.uptoBulkAll l:=by
 induction l with
 |nil=>simp[Rows.uptoBulkAll]
 |cons a b c=>
  have e:1<=Rows.uptoBulk a:=by
   cases a with
   |lit l=>cases l<;>simp[Rows.uptoBulk]
   |nil=>simp[Rows.uptoBulk]
   |ptr d=>simp[Rows.uptoBulk]
   |slice elems spare=>simp[Rows.uptoBulk]
   |agg parts=>simp[Rows.uptoBulk]
   |iface t d=>simp[Rows.uptoBulk]
   |map entries=>simp[Rows.uptoBulk]
   |held h=>simp[Rows.uptoBulk]
  simp only[Rows.uptoBulkAll,List.length_cons];omega
theorem rR (H:Type) (enc:TypeId × Value->H) (W:World) (base:Nat) (c:Array Value) (l s:List (DataW H)) (T:List MemPlace)
 (i:∀(j:Nat) t v,Tryz.f3.params[j]? =some t->c[j]? =some v->Value.okWide Tryz.prog W .any base t v)
 (u:DataW.Whole enc Tryz.prog Tryz.f3.params.toList Rows.scopeSubstsSpec.vars false W c.toList l s T) (x:Rows.uptoSmall H (l++s)=true):
  Calls Tryz.prog 3 c W λy z=>∃v,y=.returned v/\Rows.scopeSubstsSpec.post enc Tryz.prog Tryz.f3 false true false false W c v z:=by
  have m:=u;obtain⟨p,aq,A,V,rfl,ar,au⟩:=u;have B:DataW.TrodAll enc Tryz.prog W 0 (λ_=>true) true Tryz.f3.params.toList c.toList l p:=A;rw[Tryz.params3] at B i;obtain⟨C,av,aw,ax,ay,az,aA,rfl,rfl,X,Y⟩:=trodAll_cons B;obtain⟨D,aB,aC,aD,aE,aF,rfl,rfl,rfl,Z,aa⟩:=trodAll_cons Y;obtain⟨F,aG,ab,aH,k,aI,rfl,rfl,rfl,G,ac⟩:=trodAll_cons aa;obtain⟨rfl,rfl,rfl⟩:=trodAll_nil ac;obtain rfl:c=#[C,D,F]:=by cases c;simp_all
  obtain⟨rfl,rfl⟩:=trodVars_none V;obtain⟨K,rfl,rfl,rfl,L⟩:=open_string Tryz.underlying9 (i 0 9 C Q Q) X;obtain⟨M,rfl,rfl,rfl,ad⟩:=open_int Tryz.underlying3 (i 1 3 D Q Q) Z;obtain⟨N,b,ae,rfl⟩:=okWide_slice Tryz.underlying22 (i 2 22 F Q Q);have af:=G;obtain⟨aJ,ag⟩:=G;clear A;simp only[List.append_nil,List.nil_append] at m x;have ah:∀e∈k,e.block<E (U W):=λe d=>sU (m.lt e d);have ai:Rows.uptoBulkAll [DataW.lit (H:=H) (.string K.data.toList),.lit (.int .i64 M),ab]<=1048576:=of_decide_eq_true x
  obtain⟨xs,aj,P,d⟩:∃xs:List Int,O xs=b/\b<=1048576/\∀j,j<O xs->∃(n R:Nat) (e:Int),N=some ⟨n,R,I⟩/\n<E (U W)/\W.cell? ⟨n,R+j,I⟩=some (.int .i64 e):=by
   rcases open_ints Tryz.underlying22 Tryz.underlying3 xg ag with⟨f,-⟩|⟨a,len',cap',zs,f,_,P,hm,hz,d,hcell,hwz⟩
   ·simp[Value.cells] at f;obtain⟨rfl,rfl,rfl⟩:=f;exact⟨[],Q,dC,λj o=>absurd o (Nat.not_lt_zero _)⟩
   ·simp[Value.cells] at f;obtain⟨rfl,rfl,rfl⟩:=f;simp only[Prod.mk.injEq] at d;obtain⟨rfl,rfl⟩:=d;simp only[if_true] at hz;have q:O (zs.take b)=b:=by rw[List.length_take];omega
    refine⟨zs.take b,q,?_,λj o=>?_⟩
    ·have aK:=oB (lits (H:=H) .i64 (zs.take b));simp only[Rows.uptoBulkAll,Rows.uptoBulk] at ai;have aL:O (lits (H:=H) .i64 (zs.take b))=b:=by rw[<-q];simp[lits]
     omega
    ·rw[q] at o;have r:=hcell j oM;obtain⟨ak,off,al⟩:=a
     have ao:al=I:=by
      have:=World.cell?_spot (hcell 0 oM);simpa[Addr.add] using this
     subst ao;rw[add_plain] at r;exact⟨ak,off,_,Q,World.block_lt_of_cell? W _ r,r⟩
  subst aj;refine(zn K W L M (xo:=N) (xc:=ae) (xs:=xs) d P).mono λy z ⟨ap,S⟩=>?_;subst ap;refine⟨_,Q,_,_,_,[],k++[],[],m,trodAll_cons_mk (shut_bool Tryz.underlying4 _) trodAll_mk0,?_,Q,S.frame _,λh=>by cases h⟩;exact trodAll_cons_mk (p:=[]) (p':=[]++(k++[])) (shut_string Tryz.underlying9 L) (trodAll_cons_mk (p:=[]) (p':=k++[]) (shut_int Tryz.underlying3 ad) (trodAll_cons_mk (Below.trod yd kQ (of_decide_eq_true kQ) af S ah) trodAll_mk0))
theorem vp (a:Os) (b:a.Started) (H:Type) (enc:TypeId × Value->H) (c:Stop.Interp):
 ReturnsInHanded {} Tryz.checked a 3 .any ((Rows.OpenSpec.upto Rows.scopeSubstsSpec).pre6 enc Tryz.prog Tryz.f3 Rows.scopeSubstsUptoRow.domain false) (((Rows.OpenSpec.upto Rows.scopeSubstsSpec).at c).post enc Tryz.prog Tryz.f3 false true false false):=by
 refine returnsInHanded_of_cond (C:=Tryz.checked) (s:=Rows.OpenSpec.upto Rows.scopeSubstsSpec) (k:=Rows.uptoSmall) Q zi b kQ Tryz.func3
  (OpenSpec.witness (enc:=enc) (C:=Tryz.checked) (s:=Rows.OpenSpec.upto Rows.scopeSubstsSpec) (k:=Rows.uptoSmall) Q false ⟨#[],#[.string .empty,.int .i64 0,J I 0 0],[]⟩ 8 kQ kQ kQ
   (x:=([.lit (.string []),.lit (.int .i64 0),.nil],[],[])) kQ Q kQ) ?_
 intro d e f i j l m n _ o _;exact rR H enc d e f i j l m n o
theorem scope_substs_upto:Rows.ScopeSubstsUptoSaid:=
 OpenClaim.holds_of_cond 3 Tryz.f3 Q Q Q Q Q Q Q ⟨Q,Q,Q,Q,Q⟩ Q Q Q Q Q kQ Tryz.func3 kQ
  (of_decide_eq_true kQ) (by unfold Func.isWrapper;first|(rw[if_pos (by decide+kernel)];kernel_rfl)|(rw[if_neg (by decide+kernel)];exact⟨Q,Q⟩))
  (λa b c enc _ d=>vp a b c enc d)
end
end Go.Proofs.YtcnnibahjmekdaaGreat
