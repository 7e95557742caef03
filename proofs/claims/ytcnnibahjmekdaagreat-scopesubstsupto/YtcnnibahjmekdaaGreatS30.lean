import Derived.Test.YtcnnibahjmekdaaGreatS29
namespace Go.Proofs.YtcnnibahjmekdaaGreat
open Go.RowKit
open Value renaming slice→J
open List renaming length→O
open Option renaming none→I
open World renaming heap→U
open _root_.Array renaming size→E
open Obj renaming cells→Ob
set_option linter.all false
set_option maxRecDepth 100000
set_option maxHeartbeats 0
section
variable{S:Nat->Prop}
theorem sO {w:World} {a:OA} {n c:Nat} {ls:List Int} (h:ro w S 1 (J a n c) (O ls) (aC ls)) {i:Nat} {x:Int} (b:ls[i]? =some x):∃g,a=some ⟨g,0,I⟩/\g<E (U w)/\w.cell? ⟨g,i,I⟩=some (vN x):=by
 obtain⟨l,m,d,_,e⟩:=h;have o:=(gS b).1;obtain⟨g,f,_,j,k⟩:=e oM;refine⟨g,(Value.slice.inj d).1.trans f,j,(k i oM).trans ?_⟩;unfold aC;rw[List.getElem?_map,b];rfl
theorem mW {S':Nat->Prop} {G L:Int->Int->Nat->Nat->Prop}:(h h':Nat)->∀{w:World} {ka na:Int} {d:OA} {y e:Nat} {n:OA} {C i:Nat} {kb nb:Int} {j:OA} {z k:Nat} {o:OA} {D l:Nat},af S G h w (ai ka na (J d y e) (J n C i)).toList->af S' L h' w (ai kb nb (J j z k) (J o D l)).toList->Calls Tryz.prog 94 #[.agg (ai ka na (J d y e) (J n C i)),.agg (ai kb nb (J j z k) (J o D l))] w (ix w)
 |0,_,_,_,_,_,_,_,_,_,_,_,_,_,_,_,_,_,_,hn,_=>absurd hn (λs=>s)
 |_+1,0,_,_,_,_,_,_,_,_,_,_,_,_,_,_,_,_,_,_,hn=>absurd hn (λs=>s)
 |h+1,h'+1,w,ka,na,d,y,e,n,C,i,kb,nb,j,z,k,o,D,l,hA,hB=>by
  have bb:Hid (∀{w:World} {ka na:Int} {d:OA} {y e:Nat} {n:OA} {C i:Nat} {kb nb:Int} {j:OA} {z k:Nat} {o:OA} {D l:Nat},af S G h w (ai ka na (J d y e) (J n C i)).toList->af S' L h' w (ai kb nb (J j z k) (J o D l)).toList->Calls Tryz.prog 94 #[.agg (ai ka na (J d y e) (J n C i)),.agg (ai kb nb (J j z k) (J o D l))] w (ix w)):=mW h h';obtain⟨la,b,ag,R,bw,bx,-,ah⟩:=hA.parts;obtain⟨lb,c,aj,T,bz,bA,-,ak⟩:=hB.parts;have aA:=lj (f:=h) (ka:=ka) (na:=na) (la:=J d y e) (kb:=kb) (nb:=nb) (lb:=J j z k) R ah T ak;obtain rfl:=ag.len;obtain rfl:=R.len;obtain rfl:=aj.len;obtain rfl:=T.len;obtain⟨t,aB,aD⟩:=eI w (Ob (ai ka na (J d (O la) e) (J n (O b) i)) 39) (Ob (ai kb nb (J j (O lb) k) (J o (O c) l)) 39);have bc:E (U ((w.alloc (Ob (ai ka na (J d (O la) e) (J n (O b) i)) 39)).alloc (Ob (ai kb nb (J j (O lb) k) (J o (O c) l)) 39)))=E (U w)+2:=sQ
  have aE:Hid (bE (h+1) ((w.alloc (Ob (ai ka na (J d (O la) e) (J n (O b) i)) 39)).alloc (Ob (ai kb nb (J j (O lb) k) (J o (O c) l)) 39)) (ai ka na (J d (O la) e) (J n (O b) i)).toList=bE (h+1) ((w.alloc (Ob (ai ka na (J d (O la) e) (J n (O b) i)) 39)).alloc (Ob (ai kb nb (J j (O lb) k) (J o (O c) l)) 39)) (ai kb nb (J j (O lb) k) (J o (O c) l)).toList->O b=O c):=λV=>by
   rw[dy (al.below t) t.size _ _ hA,dy (al.below t) t.size _ _ hB] at V;have:=congrArg List.length (aA.1 V).2.2;simpa using this
  have r:Hid (∀{W:World},Below (E (U ((w.alloc (Ob (ai ka na (J d (O la) e) (J n (O b) i)) 39)).alloc (Ob (ai kb nb (J j (O lb) k) (J o (O c) l)) 39)))) ((w.alloc (Ob (ai ka na (J d (O la) e) (J n (O b) i)) 39)).alloc (Ob (ai kb nb (J j (O lb) k) (J o (O c) l)) 39)) W->W.heap[E (U w)]? =some (Ob (ai ka na (J d (O la) e) (J n (O b) i)) 39 (0,0))/\W.heap[E (U w)+1]? =some (Ob (ai kb nb (J j (O lb) k) (J o (O c) l)) 39 (0,0))/\Below (E (U w)) w W):=λq=>⟨(q.block _ oM).trans aB,(q.block _ oM).trans aD,t.trans (q.mono t.size)⟩;have aF:Hid (af S G (h+1) ((w.alloc (Ob (ai ka na (J d (O la) e) (J n (O b) i)) 39)).alloc (Ob (ai kb nb (J j (O lb) k) (J o (O c) l)) 39)) (ai ka na (J d (O la) e) (J n (O b) i)).toList/\af S' L (h'+1) ((w.alloc (Ob (ai ka na (J d (O la) e) (J n (O b) i)) 39)).alloc (Ob (ai kb nb (J j (O lb) k) (J o (O c) l)) 39)) (ai kb nb (J j (O lb) k) (J o (O c) l)).toList):=⟨af.frame (al.below t) t.size _ _ hA,af.frame (al.below t) t.size _ _ hB⟩;have aG:Hid (ro w S 1 (J d (O la) e) (O la) (aC la)/\ro w S' 1 (J j (O lb) k) (O lb) (aC lb)):=⟨ag,aj⟩;have F:Hid ((ro w S 4 (J n (O b) i) (O b) b.flatten/\∀s∈b,af S G h w s)/\(ro w S' 4 (J o (O c) l) (O c) c.flatten/\∀s∈c,af S' L h' w s)):=⟨⟨R,ah⟩,⟨T,ak⟩⟩;clear t aB aD bc aA hA hB ag aj R T ah ak;go_enter Tryz.func94,Tryz.ntmps94
  go_wp2_with fail;refine(o6 (h+1) (h'+1) aF.out.1 aF.out.2).mono ?_;rintro V X ⟨bd,rfl,aH,A⟩;have Y:=λm=>cell_of_row X _ m _ 39 (0,0) (r.out A).1;have Z:=λm=>cell_of_row X _ m _ 39 (0,0) (r.out A).2.1;have aa:E (U w)+1<E (U X):=(gE (r.out A).2.1).1;have ab:E (U w)<E (U X):=oM
  cases bd
  ·go_wp2_with fail;go_ret;exact⟨_,Q,(r.out A).2.2⟩
  ·have aI:O b=O c:=aE.out (aH.1 Q);have bf:Hid (O b=O c):=aI;clear aI aH aE;by_cases aJ:O la=O lb
   ·have aK:Hid (O la=O lb):=aJ;have bg:((O la:Int) !=(O lb:Int))=false:=zR oM;clear aJ;go_wp2_with fail;clear Y Z ab aa;go_loopg [5,23] (O la) (λao _ ap wr=>∃a:Nat,ao=O la - a/\ap=vN a/\a<=O la/\Below (E (U ((w.alloc (Ob (ai ka na (J d (O la) e) (J n (O b) i)) 39)).alloc (Ob (ai kb nb (J j (O lb) k) (J o (O c) l)) 39)))) ((w.alloc (Ob (ai ka na (J d (O la) e) (J n (O b) i)) 39)).alloc (Ob (ai kb nb (J j (O lb) k) (J o (O c) l)) 39)) wr)
    case atStart=>exact⟨0,Q,Q,zL _,A⟩
    case round=>
     clear A;obtain⟨a,M,rfl,aL,q⟩:=hrel;have ac:Hid (gk=O la - a):=M;clear M;have Y:=λm=>cell_of_row wr _ m _ 39 (0,0) (r.out q).1;have Z:=λm=>cell_of_row wr _ m _ 39 (0,0) (r.out q).2.1;have aa:E (U w)+1<E (U wr):=(gE (r.out q).2.1).1;have ab:E (U w)<E (U wr):=oM;by_cases B:a<O la
     ·have H:(a:Int)<(O la:Int):=oM;have bh:(a:Int)<(O lb:Int):=oH aK.out;obtain⟨s,K⟩:∃s,la[a]? =some s:=⟨_,gG B⟩;obtain⟨aq,aM⟩:∃aq,lb[a]? =some aq:=⟨_,gG (oH aK.out)⟩;obtain⟨u,rfl,ar,au⟩:=sO aG.out.1 K;obtain⟨v,rfl,av,aw⟩:=sO aG.out.2 aM;have bB:wr.cell? ⟨u,a,I⟩=some (vN s):=((r.out q).2.2.cell (p:=⟨u,a,I⟩) ar).trans au;have bC:wr.cell? ⟨v,a,I⟩=some (vN aq):=((r.out q).2.2.cell (p:=⟨v,a,I⟩) av).trans aw;clear K aM au aw;go_wp2_with fail;go_quiet (fail)
      have aN:=pK q nq;go_wp2_with fail
      ·go_ret;exact⟨_,Q,(r.out aN).2.2⟩
      ·go_roundg (O la - (a+1))
       case measure=>rw[ac.out];omega
       case rel=>exact⟨a+1,Q,by go_num,B,aN⟩
     ·have H:¬(a:Int)<(O la:Int):=oM;have aO:decide ((a:Int)<(O la:Int))=false:=sU H;go_wp2_with fail;clear Y Z ab aa ac aL B H aO;go_loopg [6,41] (O b) (λao _ ap wr=>∃a:Nat,ao=O b - a/\ap=vN a/\a<=O b/\Below (E (U ((w.alloc (Ob (ai ka na (J d (O la) e) (J n (O b) i)) 39)).alloc (Ob (ai kb nb (J j (O lb) k) (J o (O c) l)) 39)))) ((w.alloc (Ob (ai ka na (J d (O la) e) (J n (O b) i)) 39)).alloc (Ob (ai kb nb (J j (O lb) k) (J o (O c) l)) 39)) wr)
      case atStart=>exact⟨0,Q,Q,zL _,q⟩
      case round=>
       clear q;obtain⟨a,M,rfl,aL,q⟩:=hrel;have ac:Hid (gk=O b - a):=M;clear M;have Y:=λm=>cell_of_row wr _ m _ 39 (0,0) (r.out q).1;have Z:=λm=>cell_of_row wr _ m _ 39 (0,0) (r.out q).2.1;have aa:E (U w)+1<E (U wr):=(gE (r.out q).2.1).1;have ab:E (U w)<E (U wr):=oM;by_cases B:a<O b
       ·have H:(a:Int)<(O b:Int):=oM;have aP:a<O c:=oH bf.out;have bh:(a:Int)<(O c:Int):=oM;obtain⟨u,bi,aQ,_,ar,ax⟩:=F.out.1.1.nth (λs K=>af.four _ _ (F.out.1.2 s K)) B;obtain⟨v,bj,aR,_,av,ay⟩:=F.out.2.1.nth (λs K=>af.four _ _ (F.out.2.2 s K)) aP;have ad:=F.out.1.2 _ (List.getElem_mem B);have ae:=F.out.2.2 _ (List.getElem_mem aP);obtain⟨aT,aU,aV,aW,aX,aY,aZ,a0,a1⟩:=af.cells _ ad;obtain⟨a2,a3,a4,a5,a6,a7,a8,a9,a'⟩:=af.cells _ ae;rw[a1] at ax ad;rw[a'] at ay ae;clear a1 a';obtain⟨rfl,rfl⟩:n=some ⟨u,0,I⟩/\i=bi:=sU aQ;obtain⟨rfl,rfl⟩:o=some ⟨v,0,I⟩/\l=bj:=sU aR;clear aQ aR;have x:=(r.out q).2.2;have N:∀m,m<4->wr.cell? ⟨u,a*4+m,I⟩=(ai aT aU (J aV aW aX) (J aY aZ a0))[m]? :=λm az=>(x.cell (p:=⟨u,a*4+m,I⟩) ar).trans ((ax m az).trans sQ);have P:∀m,m<4->wr.cell? ⟨v,a*4+m,I⟩=(ai a2 a3 (J a4 a5 a6) (J a7 a8 a9))[m]? :=λm az=>(x.cell (p:=⟨v,a*4+m,I⟩) av).trans ((ay m az).trans sQ);have bk:=N 0 dC;have au:=N 1 dC;have aw:=N 2 dC;have bD:=N 3 dC;have bl:=P 0 dC;have bF:=P 1 dC;have bG:=P 2 dC;have bH:=P 3 dC;simp only[Nat.add_zero] at bk bl;have bI:u<E (U wr):=oH x.size;have bJ:v<E (U wr):=oH x.size;have bm:Hid (af S G h wr.drew (ai aT aU (J aV aW aX) (J aY aZ a0)).toList):=af.frame (al.below x.drew) x.size _ _ ad;have bn:Hid (af S' L h' wr.drew (ai a2 a3 (J a4 a5 a6) (J a7 a8 a9)).toList):=af.frame (al.below x.drew) x.size _ _ ae;clear ax ay N P ad ae;go_upto_region 12 with fail
        go_cut [55] (λbo bp=>∃bq:Bool,bo=.bool (!bq)/\Below (E (U w)+2) ((w.alloc (Ob (ai ka na (J d (O la) e) (J (aS u) (O b) i)) 39)).alloc (Ob (ai kb nb (J j (O lb) k) (J (aS v) (O c) l)) 39)) bp)
        case first=>
         go_region_with (go_at_call 94;refine(bb.out bm.out bn.out).mono ?_;rintro V bK ⟨br,rfl,bs⟩)
         all_goals
          go_wp2_with fail;go_meet;exact⟨br,Q,by have bt:=q.trans (((Below.refl _ wr).drew.trans bs).mono q.size);simpa using bt⟩
        case rest=>
         obtain⟨bu,rfl,bv⟩:=hcut;have ba:Below (E (U ((w.alloc (Ob (ai ka na (J d (O la) e) (J (aS u) (O b) i)) 39)).alloc (Ob (ai kb nb (J j (O lb) k) (J (aS v) (O c) l)) 39)))) ((w.alloc (Ob (ai ka na (J d (O la) e) (J (aS u) (O b) i)) 39)).alloc (Ob (ai kb nb (J j (O lb) k) (J (aS v) (O c) l)) 39)) wc:=sU bv
         cases bu
         ·go_wp2_with fail;go_ret;exact⟨_,Q,(r.out ba).2.2⟩
         ·go_wp2_with fail;go_roundg (O b - (a+1))
          case measure=>rw[ac.out];omega
          case rel=>exact⟨a+1,Q,by go_num,B,ba⟩
       ·have H:¬(a:Int)<(O b:Int):=oM;have aO:decide ((a:Int)<(O b:Int))=false:=sU H;go_wp2_with fail;go_ret;exact⟨_,Q,(r.out q).2.2⟩
   ·have bg:((O la:Int) !=(O lb:Int))=true:=yY oM;go_wp2_with fail;go_ret;exact⟨_,Q,(r.out A).2.2⟩
end
end Go.Proofs.YtcnnibahjmekdaaGreat
