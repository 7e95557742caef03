import Derived.Test.YtdghkacbpebcoaaGreatS34
namespace Go.Proofs.YtdghkacbpebcoaaGreat
open Go.RowKit
open Value renaming slice→J
open List renaming length→O
open Option renaming none→I
open World renaming heap→U
open _root_.Array renaming size→E
open Obj renaming cells→Ob
set_option linter.all false
set_option maxRecDepth 100000
set_option maxHeartbeats 0
section
variable{S:Nat->Prop}
theorem sC {w:World} {a:OA} {n c:Nat} {ls:List Int} (h:ro w S 1 (J a n c) (O ls) (aN ls)) {i:Nat} {x:Int} (b:ls[i]? =some x):∃g,a=some ⟨g,0,I⟩/\g<E (U w)/\w.cell? ⟨g,i,I⟩=some (vN x):=by
 obtain⟨l,m,d,_,e⟩:=h;have o:=(gS b).1;obtain⟨g,f,_,j,k⟩:=e oM;refine⟨g,(Value.slice.inj d).1.trans f,j,(k i oM).trans ?_⟩;unfold aN;rw[List.getElem?_map,b];rfl
theorem mT {S':Nat->Prop} {G L:Int->Int->Nat->Nat->Prop}:(h h':Nat)->∀{w:World} {ka na:Int} {d:OA} {y e:Nat} {n:OA} {C i:Nat} {kb nb:Int} {j:OA} {z k:Nat} {o:OA} {D l:Nat},af S G h w (ak ka na (J d y e) (J n C i)).toList->af S' L h' w (ak kb nb (J j z k) (J o D l)).toList->Calls Tryz.prog 88 #[.agg (ak ka na (J d y e) (J n C i)),.agg (ak kb nb (J j z k) (J o D l))] w (iu w)
 |0,_,_,_,_,_,_,_,_,_,_,_,_,_,_,_,_,_,_,hn,_=>absurd hn (λs=>s)
 |_+1,0,_,_,_,_,_,_,_,_,_,_,_,_,_,_,_,_,_,_,hn=>absurd hn (λs=>s)
 |h+1,h'+1,w,ka,na,d,y,e,n,C,i,kb,nb,j,z,k,o,D,l,hA,hB=>by
  have bb:Hid (∀{w:World} {ka na:Int} {d:OA} {y e:Nat} {n:OA} {C i:Nat} {kb nb:Int} {j:OA} {z k:Nat} {o:OA} {D l:Nat},af S G h w (ak ka na (J d y e) (J n C i)).toList->af S' L h' w (ak kb nb (J j z k) (J o D l)).toList->Calls Tryz.prog 88 #[.agg (ak ka na (J d y e) (J n C i)),.agg (ak kb nb (J j z k) (J o D l))] w (iu w)):=mT h h';obtain⟨la,b,ag,R,bw,bx,-,ah⟩:=hA.parts;obtain⟨lb,c,ai,T,bz,bA,-,aj⟩:=hB.parts;have aA:=nU (f:=h) (ka:=ka) (na:=na) (la:=J d y e) (kb:=kb) (nb:=nb) (lb:=J j z k) R ah T aj;obtain rfl:=ag.len;obtain rfl:=R.len;obtain rfl:=ai.len;obtain rfl:=T.len;obtain⟨t,aB,aC⟩:=dW w (Ob (ak ka na (J d (O la) e) (J n (O b) i)) 41) (Ob (ak kb nb (J j (O lb) k) (J o (O c) l)) 41);have bc:E (U ((w.alloc (Ob (ak ka na (J d (O la) e) (J n (O b) i)) 41)).alloc (Ob (ak kb nb (J j (O lb) k) (J o (O c) l)) 41)))=E (U w)+2:=sQ
  have aD:Hid (cS (h+1) ((w.alloc (Ob (ak ka na (J d (O la) e) (J n (O b) i)) 41)).alloc (Ob (ak kb nb (J j (O lb) k) (J o (O c) l)) 41)) (ak ka na (J d (O la) e) (J n (O b) i)).toList=cS (h+1) ((w.alloc (Ob (ak ka na (J d (O la) e) (J n (O b) i)) 41)).alloc (Ob (ak kb nb (J j (O lb) k) (J o (O c) l)) 41)) (ak kb nb (J j (O lb) k) (J o (O c) l)).toList->O b=O c):=λV=>by
   rw[fG (aq.below t) t.size _ _ hA,fG (aq.below t) t.size _ _ hB] at V;have:=congrArg List.length (aA.1 V).2.2;simpa using this
  have r:Hid (∀{W:World},Below (E (U ((w.alloc (Ob (ak ka na (J d (O la) e) (J n (O b) i)) 41)).alloc (Ob (ak kb nb (J j (O lb) k) (J o (O c) l)) 41)))) ((w.alloc (Ob (ak ka na (J d (O la) e) (J n (O b) i)) 41)).alloc (Ob (ak kb nb (J j (O lb) k) (J o (O c) l)) 41)) W->W.heap[E (U w)]? =some (Ob (ak ka na (J d (O la) e) (J n (O b) i)) 41 (0,0))/\W.heap[E (U w)+1]? =some (Ob (ak kb nb (J j (O lb) k) (J o (O c) l)) 41 (0,0))/\Below (E (U w)) w W):=λq=>⟨(q.block _ oM).trans aB,(q.block _ oM).trans aC,t.trans (q.mono t.size)⟩;have aE:Hid (af S G (h+1) ((w.alloc (Ob (ak ka na (J d (O la) e) (J n (O b) i)) 41)).alloc (Ob (ak kb nb (J j (O lb) k) (J o (O c) l)) 41)) (ak ka na (J d (O la) e) (J n (O b) i)).toList/\af S' L (h'+1) ((w.alloc (Ob (ak ka na (J d (O la) e) (J n (O b) i)) 41)).alloc (Ob (ak kb nb (J j (O lb) k) (J o (O c) l)) 41)) (ak kb nb (J j (O lb) k) (J o (O c) l)).toList):=⟨af.frame (aq.below t) t.size _ _ hA,af.frame (aq.below t) t.size _ _ hB⟩;have aF:Hid (ro w S 1 (J d (O la) e) (O la) (aN la)/\ro w S' 1 (J j (O lb) k) (O lb) (aN lb)):=⟨ag,ai⟩;have F:Hid ((ro w S 4 (J n (O b) i) (O b) b.flatten/\∀s∈b,af S G h w s)/\(ro w S' 4 (J o (O c) l) (O c) c.flatten/\∀s∈c,af S' L h' w s)):=⟨⟨R,ah⟩,⟨T,aj⟩⟩;clear t aB aC bc aA hA hB ag ai R T ah aj;go_enter Tryz.func88,Tryz.ntmps88
  go_wp2_with fail;refine(sx (h+1) (h'+1) aE.out.1 aE.out.2).mono ?_;rintro V X ⟨bd,rfl,aG,A⟩;have Y:=λm=>cell_of_row X _ m _ 41 (0,0) (r.out A).1;have Z:=λm=>cell_of_row X _ m _ 41 (0,0) (r.out A).2.1;have aa:E (U w)+1<E (U X):=(gE (r.out A).2.1).1;have ab:E (U w)<E (U X):=oM
  cases bd
  ·go_wp2_with fail;go_ret;exact⟨_,Q,(r.out A).2.2⟩
  ·have aH:O b=O c:=aD.out (aG.1 Q);have bf:Hid (O b=O c):=aH;clear aH aG aD;by_cases aI:O la=O lb
   ·have aJ:Hid (O la=O lb):=aI;have bg:((O la:Int) !=(O lb:Int))=false:=zC oM;clear aI;go_wp2_with fail;clear Y Z ab aa;go_loopg [5,23] (O la) (λal _ ao wr=>∃a:Nat,al=O la - a/\ao=vN a/\a<=O la/\Below (E (U ((w.alloc (Ob (ak ka na (J d (O la) e) (J n (O b) i)) 41)).alloc (Ob (ak kb nb (J j (O lb) k) (J o (O c) l)) 41)))) ((w.alloc (Ob (ak ka na (J d (O la) e) (J n (O b) i)) 41)).alloc (Ob (ak kb nb (J j (O lb) k) (J o (O c) l)) 41)) wr)
    case atStart=>exact⟨0,Q,Q,zL _,A⟩
    case round=>
     clear A;obtain⟨a,M,rfl,aK,q⟩:=hrel;have ac:Hid (gk=O la - a):=M;clear M;have Y:=λm=>cell_of_row wr _ m _ 41 (0,0) (r.out q).1;have Z:=λm=>cell_of_row wr _ m _ 41 (0,0) (r.out q).2.1;have aa:E (U w)+1<E (U wr):=(gE (r.out q).2.1).1;have ab:E (U w)<E (U wr):=oM;by_cases B:a<O la
     ·have H:(a:Int)<(O la:Int):=oM;have bh:(a:Int)<(O lb:Int):=oH aJ.out;obtain⟨s,K⟩:∃s,la[a]? =some s:=⟨_,gG B⟩;obtain⟨ap,aL⟩:∃ap,lb[a]? =some ap:=⟨_,gG (oH aJ.out)⟩;obtain⟨u,rfl,ar,au⟩:=sC aF.out.1 K;obtain⟨v,rfl,av,aw⟩:=sC aF.out.2 aL;have bB:wr.cell? ⟨u,a,I⟩=some (vN s):=((r.out q).2.2.cell (p:=⟨u,a,I⟩) ar).trans au;have bC:wr.cell? ⟨v,a,I⟩=some (vN ap):=((r.out q).2.2.cell (p:=⟨v,a,I⟩) av).trans aw;clear K aL au aw;go_wp2_with fail;go_quiet (fail)
      have aM:=pC q nq;go_wp2_with fail
      ·go_ret;exact⟨_,Q,(r.out aM).2.2⟩
      ·go_roundg (O la - (a+1))
       case measure=>rw[ac.out];omega
       case rel=>exact⟨a+1,Q,by go_num,B,aM⟩
     ·have H:¬(a:Int)<(O la:Int):=oM;have aO:decide ((a:Int)<(O la:Int))=false:=sU H;go_wp2_with fail;clear Y Z ab aa ac aK B H aO;go_loopg [6,41] (O b) (λal _ ao wr=>∃a:Nat,al=O b - a/\ao=vN a/\a<=O b/\Below (E (U ((w.alloc (Ob (ak ka na (J d (O la) e) (J n (O b) i)) 41)).alloc (Ob (ak kb nb (J j (O lb) k) (J o (O c) l)) 41)))) ((w.alloc (Ob (ak ka na (J d (O la) e) (J n (O b) i)) 41)).alloc (Ob (ak kb nb (J j (O lb) k) (J o (O c) l)) 41)) wr)
      case atStart=>exact⟨0,Q,Q,zL _,q⟩
      case round=>
       clear q;obtain⟨a,M,rfl,aK,q⟩:=hrel;have ac:Hid (gk=O b - a):=M;clear M;have Y:=λm=>cell_of_row wr _ m _ 41 (0,0) (r.out q).1;have Z:=λm=>cell_of_row wr _ m _ 41 (0,0) (r.out q).2.1;have aa:E (U w)+1<E (U wr):=(gE (r.out q).2.1).1;have ab:E (U w)<E (U wr):=oM;by_cases B:a<O b
       ·have H:(a:Int)<(O b:Int):=oM;have aP:a<O c:=oH bf.out;have bh:(a:Int)<(O c:Int):=oM;obtain⟨u,bi,aQ,_,ar,ax⟩:=F.out.1.1.nth (λs K=>af.four _ _ (F.out.1.2 s K)) B;obtain⟨v,bj,aR,_,av,ay⟩:=F.out.2.1.nth (λs K=>af.four _ _ (F.out.2.2 s K)) aP;have ad:=F.out.1.2 _ (List.getElem_mem B);have ae:=F.out.2.2 _ (List.getElem_mem aP);obtain⟨aT,aU,aV,aW,aX,aY,aZ,a0,a1⟩:=af.cells _ ad;obtain⟨a2,a3,a4,a5,a6,a7,a8,a9,a'⟩:=af.cells _ ae;rw[a1] at ax ad;rw[a'] at ay ae;clear a1 a';obtain⟨rfl,rfl⟩:n=some ⟨u,0,I⟩/\i=bi:=sU aQ;obtain⟨rfl,rfl⟩:o=some ⟨v,0,I⟩/\l=bj:=sU aR;clear aQ aR;have x:=(r.out q).2.2;have N:∀m,m<4->wr.cell? ⟨u,a*4+m,I⟩=(ak aT aU (J aV aW aX) (J aY aZ a0))[m]? :=λm az=>(x.cell (p:=⟨u,a*4+m,I⟩) ar).trans ((ax m az).trans sQ);have P:∀m,m<4->wr.cell? ⟨v,a*4+m,I⟩=(ak a2 a3 (J a4 a5 a6) (J a7 a8 a9))[m]? :=λm az=>(x.cell (p:=⟨v,a*4+m,I⟩) av).trans ((ay m az).trans sQ);have bk:=N 0 dC;have au:=N 1 dC;have aw:=N 2 dC;have bD:=N 3 dC;have bl:=P 0 dC;have bE:=P 1 dC;have bF:=P 2 dC;have bG:=P 3 dC;simp only[Nat.add_zero] at bk bl;have bH:u<E (U wr):=oH x.size;have bI:v<E (U wr):=oH x.size;have bm:Hid (af S G h wr.drew (ak aT aU (J aV aW aX) (J aY aZ a0)).toList):=af.frame (aq.below x.drew) x.size _ _ ad;have bn:Hid (af S' L h' wr.drew (ak a2 a3 (J a4 a5 a6) (J a7 a8 a9)).toList):=af.frame (aq.below x.drew) x.size _ _ ae;clear ax ay N P ad ae;go_upto_region 12 with fail
        go_cut [55] (λbo bp=>∃bq:Bool,bo=.bool (!bq)/\Below (E (U w)+2) ((w.alloc (Ob (ak ka na (J d (O la) e) (J (aS u) (O b) i)) 41)).alloc (Ob (ak kb nb (J j (O lb) k) (J (aS v) (O c) l)) 41)) bp)
        case first=>
         go_region_with (go_at_call 88;refine(bb.out bm.out bn.out).mono ?_;rintro V bJ ⟨br,rfl,bs⟩)
         all_goals
          go_wp2_with fail;go_meet;exact⟨br,Q,by have bt:=q.trans (((Below.refl _ wr).drew.trans bs).mono q.size);simpa using bt⟩
        case rest=>
         obtain⟨bu,rfl,bv⟩:=hcut;have ba:Below (E (U ((w.alloc (Ob (ak ka na (J d (O la) e) (J (aS u) (O b) i)) 41)).alloc (Ob (ak kb nb (J j (O lb) k) (J (aS v) (O c) l)) 41)))) ((w.alloc (Ob (ak ka na (J d (O la) e) (J (aS u) (O b) i)) 41)).alloc (Ob (ak kb nb (J j (O lb) k) (J (aS v) (O c) l)) 41)) wc:=sU bv
         cases bu
         ·go_wp2_with fail;go_ret;exact⟨_,Q,(r.out ba).2.2⟩
         ·go_wp2_with fail;go_roundg (O b - (a+1))
          case measure=>rw[ac.out];omega
          case rel=>exact⟨a+1,Q,by go_num,B,ba⟩
       ·have H:¬(a:Int)<(O b:Int):=oM;have aO:decide ((a:Int)<(O b:Int))=false:=sU H;go_wp2_with fail;go_ret;exact⟨_,Q,(r.out q).2.2⟩
   ·have bg:((O la:Int) !=(O lb:Int))=true:=yH oM;go_wp2_with fail;go_ret;exact⟨_,Q,(r.out A).2.2⟩
end
end Go.Proofs.YtdghkacbpebcoaaGreat
