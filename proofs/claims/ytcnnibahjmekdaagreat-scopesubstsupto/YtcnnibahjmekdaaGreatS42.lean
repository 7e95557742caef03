import Derived.Test.YtcnnibahjmekdaaGreatS41
namespace Go.Proofs.YtcnnibahjmekdaaGreat
open Go.RowKit
open Value renaming slice→J
open List renaming length→O
open Option renaming none→I
open World renaming heap→U
open _root_.Array renaming size→E
open Obj renaming cells→Ob
set_option linter.all false
set_option maxRecDepth 100000
set_option maxHeartbeats 0
section
variable{M:MK} {H Xd Xf Xi mb:Nat} {Mu:Nat->Prop} {fns ims trs:VV} {w:World}
structure DM (w:World) (mb:Nat) (M:MK) (trs ims fns:VV) (Xd Xi Xf:Nat) (Mu:Nat->Prop) (H:Nat) (nd im:Array Value) (wr:World):Prop where
 s:MS wr mb M trs ims fns Xd Xi Xf Mu H
 below:Below (E (U w)) w wr
 nb:wr.heap[E (U w)]? =some (Ob nd 46 (0,0))
 ib:wr.heap[E (U w)+1]? =some (Ob im 71 (0,0))
theorem DM.drewN {a b:Array Value} {wr:World} (q:DM w mb M trs ims fns Xd Xi Xf Mu H a b wr) (n:Nat):DM w mb M trs ims fns Xd Xi Xf Mu H a b (wr.drewN n):=⟨q.s.below (fI (Below.refl _ _) n),fI q.below n,q.nb,q.ib⟩
def zE (g:Bool) (kind:Int) (nv ng nl:Nat) (ak:Int):Prop:=g=true->kind=4/\nv=ng/\(nl:Int)=ak
def uD (w:World) (mb:Nat) (M:MK) (trs ims fns:VV) (Xd Xi Xf:Nat) (Mu:Nat->Prop) (H:Nat) (e:Ending) (w':World):Prop:=
 ∃(ds:List Dd) (k a:Int),e=.returned (.tuple #[])/\O ds=O M.ds/\MS w' mb ({M with ds:=ds}.bt k a) trs ims fns Xd Xi Xf Mu H/\KX Mu (E (U w)) w w'/\(M.fk≠0->k=M.fk)/\KT (λt=>t≠64/\t≠88) w w'
theorem rP (h:MS w mb M trs ims fns Xd Xi Xf Mu H) {pos R m:Int} {name:ByteArray} {kv:Value} {F mod G j:Int} {u:OA} {z:Nat} {c:VV} {kind n:Int} {s:OA} {v:Nat} {ls:List Int} {t:OA} {y:Nat} {e:VV} {fo:OA} {K fc:Nat} {S bn:Nat->Prop} {aw:Nat} (A:af S (Gd (O M.ds)) aw w (ai kind n (J s (O ls) v) (J t (O e) y)).toList) (ax:ro w S 1 (J s (O ls) v) (O ls) (aC ls)) (aY:ro w S 4 (J t (O e) y) (O e) e.flatten) (aZ:Gd (O M.ds) kind n (O ls) (O e)) (aG:∀x∈e,af S (Gd (O M.ds)) aw w x) (a0:ro w bn 2 (J u (O c) z) (O c) c.flatten) (aH:∀x∈c,wT x) (a1:O c<=30000) (ac:O ls<=30000) (ad:Int):
 Calls Tryz.prog 77 #[.pointer (aS mb),.agg (ae 7 pos R m name kv),.agg (df F mod G j (J u (O c) z) kind n (J s (O ls) v) (J t (O e) y) (J fo K fc)),vN ad] w (uD w mb M trs ims fns Xd Xi Xf Mu H):=by
 have a2:Hid (Gd (O M.ds) kind n (O ls) (O e)):=aZ
 have bo:Hid (∀l,l<O e->∃g L N,t=some ⟨g,0,I⟩/\g<E (U w)/\w.cell? ⟨g,l*4,I⟩=some (vN L)/\w.cell? ⟨g,l*4+1,I⟩=some (vN N)):=by
  intro l W;obtain⟨g,ag,o,hS,k,X⟩:=aY.nth (λx Y=>af.four _ _ (aG x Y)) W;obtain⟨rfl,rfl⟩:t=some ⟨g,0,I⟩/\y=ag:=sU o;obtain⟨L,N,bO,bP,bQ,bR,bS,bT,bp⟩:=af.cells _ (aG _ (List.getElem_mem W));have a3:=X 0 dC;have ah:=X 1 dC;rw[bp] at a3 ah;exact⟨g,L,N,Q,k,sU a3,sU ah⟩
 have bq:Hid (∀l,l<O c->∃g aJ aK aL,u=some ⟨g,0,I⟩/\g<E (U w)/\w.cell? ⟨g,l*2,I⟩=some (J aJ aK aL)):=by
  intro l W;obtain⟨x,Y⟩:∃x,c[l]? =some x:=⟨_,gG W⟩;obtain⟨g,ag,o,k,X⟩:=a0.iH Q (λx Y=>by obtain⟨Z,P,ah,ay,aa,br,rfl⟩:=aH x Y;rfl) Y;obtain⟨rfl,rfl⟩:u=some ⟨g,0,I⟩/\z=ag:=sU o;obtain⟨Z,P,ah,ay,aa,br,rfl⟩:=aH x (mG Y);exact⟨g,Z,P,ah,Q,k,X 0 dC⟩
 have bs:Hid (∀l,l<O ls->∃g aM,s=some ⟨g,0,I⟩/\g<E (U w)/\w.cell? ⟨g,l,I⟩=some (vN aM)):=by
  intro l W;obtain⟨bt,ag,o,bu,bv⟩:=ax;obtain⟨g,az,hS,k,X⟩:=bv oM;obtain⟨rfl,-⟩:s=bt/\v=ag:=sU o;refine⟨g,ls[l],az,k,?_⟩;rw[X l oM];unfold aC;rw[List.getElem?_map,gG W];rfl
 obtain⟨Z,ay,a4⟩:=eI w (Ob (ae 7 pos R m name kv) 46) (Ob (df F mod G j (J u (O c) z) kind n (J s (O ls) v) (J t (O e) y) (J fo K fc)) 71);have aj:DM w mb M trs ims fns Xd Xi Xf Mu H (ae 7 pos R m name kv) (df F mod G j (J u (O c) z) kind n (J s (O ls) v) (J t (O e) y) (J fo K fc)) ((w.alloc (Ob (ae 7 pos R m name kv) 46)).alloc (Ob (df F mod G j (J u (O c) z) kind n (J s (O ls) v) (J t (O e) y) (J fo K fc)) 71)):=⟨h.below Z,Z,ay,a4⟩
 have bU:O e<=30000:=by
  cases aw with
  |zero=>exact absurd A (λx=>x)
  |succ aw=>
   obtain⟨bV,o,bu,-⟩:=A.args;omega
 clear h A ax aY aZ aG a0 aH Z ay a4;go_enter Tryz.func77,Tryz.ntmps77
 go_upto_region 1 with fail
 go_cut [8] (λbw bx=>∃g:Bool,bw=.bool g/\zE g kind (O e) (O c) (O ls) j/\DM w mb M trs ims fns Xd Xi Xf Mu H (ae 7 pos R m name kv) (df F mod G j (J u (O c) z) kind n (J s (O ls) v) (J t (O e) y) (J fo K fc)) bx)
 case first=>
  by_cases ab:kind=4
  ·subst ab;by_cases aA:O e=O c
   ·have bz:((O e:Int)==(O c:Int))=true:=by simp[aA]
    by_cases ac:(O ls:Int)=j
    ·have bA:((O ls:Int)==j)=true:=by simp[ac]
     have bB:Hid (O e=O c/\(O ls:Int)=j):=⟨aA,ac⟩;clear aA ac;go_wp2_with fail;go_meet;exact⟨true,Q,λ_=>⟨Q,bB.out⟩,aj⟩
    ·have bA:((O ls:Int)==j)=false:=sU ac;clear aA;go_wp2_with fail;go_meet;exact⟨false,Q,λo=>(by cases o),aj⟩
   ·have bz:((O e:Int)==(O c:Int))=false:=by simp;omega
    go_wp2_with fail;go_meet;exact⟨false,Q,λo=>(by cases o),aj⟩
  ·have bW:(kind==4)=false:=eF ab;go_wp2_with fail;go_meet;exact⟨false,Q,λo=>(by cases o),aj⟩
 case rest=>
  clear aj;obtain⟨bC,rfl,k,a⟩:=hcut;go_wp2_with fail;go_loopg [8,9] (O c) (λT aN aO wr=>∃(i:Nat) (g:Bool),T=O c - i/\aO=vN i/\aN=.bool g/\i<=O c/\zE g kind (O e) (O c) (O ls) j/\DM w mb M trs ims fns Xd Xi Xf Mu H (ae 7 pos R m name kv) (df F mod G j (J u (O c) z) kind n (J s (O ls) v) (J t (O e) y) (J fo K fc)) wr)
  case atStart=>exact⟨0,bC,Q,Q,Q,zL _,k,a⟩
  case round=>
   clear a k;obtain⟨i,g,a5,rfl,rfl,bX,k,a⟩:=hrel;have aP:Hid (gk=O c - i):=a5;clear a5;have a6:=λB=>cell_of_row wr _ B _ 46 (0,0) a.nb;have a7:E (U w)<E (U wr):=(gE a.nb).1;have a8:=λB=>cell_of_row wr _ B _ 71 (0,0) a.ib;have a9:E (U w)+1<E (U wr):=(gE a.ib).1;have a':=a.s.mk'.cell;have ba:=a.s.mk'.fz;have bb:=a.s.mk'.lt
   cases g
   case' true=>
    by_cases aB:i<O c
    ·have bc:(i:Int)<(O c:Int):=oM;obtain⟨ak,L,N,rfl,bd,al,bf⟩:=bo.out i (oH (k Q).2.1);obtain⟨T,aJ,aK,aL,rfl,bD,az⟩:=bq.out i aB;have bZ:(i:Int)<(O e:Int):=oH (k Q).2.1;have al:wr.cell? ⟨ak,i*4,I⟩=some (vN L):=(a.below.cell (p:=⟨ak,i*4,I⟩) bd).trans al;have bf:wr.cell? ⟨ak,i*4+1,I⟩=some (vN N):=(a.below.cell (p:=⟨ak,i*4+1,I⟩) bd).trans bf;have az:wr.cell? ⟨T,i*2,I⟩=some (J aJ aK aL):=(a.below.cell (p:=⟨T,i*2,I⟩) bD).trans az;have b0:ak<E (U wr):=oM;have b1:T<E (U wr):=oM;have ao:Hid (kind=4/\O e=O c/\(O ls:Int)=j):=k Q;clear k;by_cases P:L=5
     ·have bE:(L==5)=true:=eT P;by_cases aa:N=(i:Int)
      ·have bF:(N==(i:Int))=true:=eT aa;clear P aa;go_wp2_with fail;go_roundg (O c - (i+1))
       case measure=>rw[aP.out];omega
       case rel=>exact⟨i+1,_,Q,by go_num,Q,aB,λ_=>ao.out,a⟩
      ·have bF:(N==(i:Int))=false:=eF aa;clear P aa;go_wp2_with fail;go_roundg (O c - (i+1))
       case measure=>rw[aP.out];omega
       case rel=>exact⟨i+1,_,Q,by go_num,Q,aB,λ_=>ao.out,a⟩
     ·have bE:(L==5)=false:=eF P;clear P;go_wp2_with fail;go_roundg (O c - (i+1))
      case measure=>rw[aP.out];omega
      case rel=>exact⟨i+1,_,Q,by go_num,Q,aB,λ_=>ao.out,a⟩
    have bc:¬(i:Int)<(O c:Int):=oM;have b2:decide ((i:Int)<(O c:Int))=false:=sU bc
   all_goals
    go_wp2_with fail;clear a6 a7 a8 a9 a' ba bb;go_loopg [8,10] (O ls) (λT aN aO wr=>∃(q:Nat) (aD:Bool),T=O ls - q/\aO=vN q/\aN=.bool aD/\q<=O ls/\zE aD kind (O e) (O c) (O ls) j/\DM w mb M trs ims fns Xd Xi Xf Mu H (ae 7 pos R m name kv) (df F mod G j (J u (O c) z) kind n (J s (O ls) v) (J t (O e) y) (J fo K fc)) wr)
    case atStart=>exact⟨0,_,Q,Q,Q,zL _,k,a⟩
    case round=>
     clear a k;obtain⟨q,aD,bg,rfl,rfl,b3,k,a⟩:=hrel;have bG:Hid (gk=O ls - q):=bg;clear bg;have a6:=λB=>cell_of_row wr _ B _ 46 (0,0) a.nb;have a7:E (U w)<E (U wr):=(gE a.nb).1;have a8:=λB=>cell_of_row wr _ B _ 71 (0,0) a.ib;have a9:E (U w)+1<E (U wr):=(gE a.ib).1;have a':=a.s.mk'.cell;have ba:=a.s.mk'.fz;have bb:=a.s.mk'.lt
     cases aD
     ·go_wp2_with fail;go_quiet (fail)
      go_wp2_with fail;have f:=a.drewN nq;refine(bY f.s.mk' _ _).mono ?_;rintro o bh ⟨⟨ap,aq,rfl,ar,C,au⟩,-⟩;have av:=f.s.no ar C;go_wp2_with fail;go_end0;exact⟨M.ds,ap,aq,Q,Q,av,(KX.aq f.below).trans ((KX.cN C f.s.dT).mono (λ_ _ h=>h) f.below.size),au,(KT.below f.below).trans ((KT.yU f.s.mk' C).mono (λaQ A=>A.2))⟩
     ·by_cases bi:q<O ls
      ·have bj:(q:Int)<j:=oH (k Q).2.2;obtain⟨aR,aM,rfl,a1,al⟩:=bs.out q bi;have b4:(q:Int)<(O ls:Int):=oM;have al:wr.cell? ⟨aR,q,I⟩=some (vN aM):=(a.below.cell (p:=⟨aR,q,I⟩) a1).trans al;have b5:aR<E (U wr):=oM;have ao:Hid (kind=4/\O e=O c/\(O ls:Int)=j):=k Q;clear k;go_wp2_with fail;go_roundg (O ls - (q+1))
       case measure=>rw[bG.out];omega
       case rel=>exact⟨q+1,_,Q,by go_num,Q,bi,λ_=>ao.out,a⟩
      ·have bj:¬(q:Int)<j:=oH (k Q).2.2;have b6:decide ((q:Int)<j)=false:=sU bj;obtain⟨ab,-,-⟩:=k Q;obtain⟨r,rfl⟩:∃r:Nat,n=(r:Int):=⟨n.toNat,oH (a2.out.2.1 ab).1⟩;have b7:(r:Int)<(O M.ds:Int):=(a2.out.2.1 ab).2;obtain⟨d,aT⟩:∃d,M.ds[r]? =some d:=⟨_,gG oM⟩;obtain⟨g,aU,b8,aV⟩:=a.s.pi.data (i:=r) (d:=d) aT;have b9:=a.s.pi.bB.2.1;have V:Hid (M.ds[r]? =some d/\M.cV=some ⟨g,0,I⟩):=⟨aT,aU⟩;have bH:wr.cell? ⟨g,r*10+4,I⟩=some (.bool d.copy):=aV 4 dC;have bI:wr.cell? ⟨g,r*10+9,I⟩=some (vN d.drop):=aV 9 dC;obtain⟨aW,bk⟩:∃aW,d.copy=aW:=⟨_,Q⟩;obtain⟨aE,bl⟩:∃aE,d.drop=aE:=⟨_,Q⟩;rw[bk] at bH;rw[bl] at bI;have b':M.cV=some ⟨g,0,I⟩:=aU;clear aV aT aU bk bl ab
       cases aW
       ·by_cases bJ:r=0
        ·subst bJ;go_wp2_with fail;go_quiet (fail)
         go_wp2_with fail;have f:=a.drewN nq;refine(bY f.s.mk' _ _).mono ?_;rintro o bh ⟨⟨ap,aq,rfl,ar,C,au⟩,-⟩;have av:=f.s.no ar C;go_wp2_with fail;go_end0;exact⟨M.ds,ap,aq,Q,Q,av,(KX.aq f.below).trans ((KX.cN C f.s.dT).mono (λ_ _ h=>h) f.below.size),au,(KT.below f.below).trans ((KT.yU f.s.mk' C).mono (λaQ A=>A.2))⟩
        ·have ca:((r:Int)==0)=false:=by simp;omega
         obtain⟨cb,aF⟩:=aX a.s.pi.cu (b:=g) (by rw[V.out.2];rfl);have cc:wr.frozen? ⟨g,r*10+9,I⟩=false:=frozen_of_row wr g _ _ 64 aF;have bK:mb≠g:=aI a.s.mk' aF dC;have bL:E (U w)+1≠g:=aI a.ib aF dC;have bm:Hid (∀{D:World},D.heap[mb]? =wr.heap[mb]? ->D.heap[E (U w)+1]? =wr.heap[E (U w)+1]? ->(Ce D mb (jO M))/\(Ce D (E (U w)+1) (df F mod G j (J u (O c) z) kind (r:Int) (J s (O ls) v) (J t (O e) y) (J fo K fc)))):=λ{D} bM ax=>⟨λB=>cell_of_row D _ B _ 88 (0,0) (bM.trans a.s.mk'),λB=>cell_of_row D _ B _ 71 (0,0) (ax.trans a.ib)⟩;clear aF;by_cases bN:aE<0
         ·go_wp2_with fail;go_quiet (fail)
          go_wp2_with fail;go_quiet (fail)
          go_wp2_with fail;go_region_held3 (λD=>(Ce D mb (jO M))/\(Ce D (E (U w)+1) (df F mod G j (J u (O c) z) kind (r:Int) (J s (O ls) v) (J t (O e) y) (J fo K fc)))) (first|assumption|exact bm.out Q rfl|exact bm.out (Below.heap_setCell _ ⟨g,_,I⟩ _ _ bK) (Below.heap_setCell _ ⟨g,_,I⟩ _ _ bL)) (fail)
          go_wp2_with fail;go_end0;exact⟨M.ds.set r (d.vB ad),M.fk,M.fa,Q,List.length_set,((a.drewN _).s.mm V.out.1 V.out.2 ad).1,(KX.aq (a.drewN _).below).trans (((a.drewN _).s.mm V.out.1 V.out.2 ad).2.1.mono (λ_ _ h=>h) (a.drewN _).below.size),λ_=>rfl,(KT.below (a.drewN _).below).trans (((a.drewN _).s.mm V.out.1 V.out.2 ad).2.2.mono (λaQ A=>A.1))⟩
         ·have cd:decide (aE<0)=false:=sU bN;go_wp2_with fail;go_quiet (fail)
          go_wp2_with fail;go_quiet (fail)
          go_wp2_with fail;go_end0;exact⟨M.ds,M.fk,M.fa,Q,Q,a.s.below (fI (fI (Below.refl _ _) _) _),KX.aq (fI (fI a.below _) _),λ_=>rfl,KT.below (fI (fI a.below _) _)⟩
       ·go_wp2_with fail;go_quiet (fail)
        go_wp2_with fail;have f:=a.drewN nq;refine(bY f.s.mk' _ _).mono ?_;rintro o bh ⟨⟨ap,aq,rfl,ar,C,au⟩,-⟩;have av:=f.s.no ar C;go_wp2_with fail;go_end0;exact⟨M.ds,ap,aq,Q,Q,av,(KX.aq f.below).trans ((KX.cN C f.s.dT).mono (λ_ _ h=>h) f.below.size),au,(KT.below f.below).trans ((KT.yU f.s.mk' C).mono (λaQ A=>A.2))⟩
end
theorem pd {c:Func} {r:Nat} (l:c.results=#[.cell r 64]) {a:Array Value} {b:Nat} (m:a.getD r undef=.pointer (aS b)) {W:World} {c0 c1 c2 c3 d e f i j k:Value} (n:W.heap[b]? =some (Ob #[c0,c1,c2,c3,d,e,f,i,j,k] 64 (0,0))):
 (results c a).run Tryz.prog W=.ok (.agg #[c0,c1,c2,c3,d,e,f,i,j,k]) W:=by
 have o:=λp=>cell_of_row W b p _ 64 (0,0) n;have q:a[r]?.getD undef=.pointer (aS b):=sU m;simp[results,l,q,go_sem,o]
def mD (w:World):Dd:=⟨⟨#[79,112,116,105,111,110]⟩,-1,0,true,true,true,0,1,some ⟨E (U w)+2,0,I⟩,2,[⟨⟨#[78,111,110,101]⟩,I,0,[]⟩,⟨⟨#[83,111,109,101]⟩,some ⟨E (U w)+1,0,I⟩,1,[⟨⟨#[]⟩,true,(ai 5 0 (J I 0 0) (J I 0 0)).toList⟩]⟩],-1⟩
def xz (w:World) (D:Nat) (e:Ending) (w':World):Prop:=e=.returned (.agg (mD w).c.toArray)/\Below (E (U w)) w w'/\eB (λb=>E (U w)<=b) D 1 1 w' (mD w)
theorem sY (D:Nat) {w:World}:Calls Tryz.prog 25 #[] w (xz w D):=by
 obtain⟨d,e,b,c⟩:=np w (Ob #[.string ⟨#[79,112,116,105,111,110]⟩,vN (-1),vN 0,.bool true,.bool true,.bool true,vN 0,vN 1,J (aS (E (U w)+2)) 2 2,vN (-1)] 64) (Ob #[.string ⟨#[]⟩,.bool true,vN 5,vN 0,J I 0 0,J I 0 0] 69) (Ob #[.string ⟨#[78,111,110,101]⟩,J I 0 0,.string ⟨#[83,111,109,101]⟩,J (aS (E (U w)+1)) 1 1] 67);have l:Hid (Below (E (U w)) w (((w.alloc (Ob #[.string ⟨#[79,112,116,105,111,110]⟩,vN (-1),vN 0,.bool true,.bool true,.bool true,vN 0,vN 1,J (aS (E (U w)+2)) 2 2,vN (-1)] 64)).alloc (Ob #[.string ⟨#[]⟩,.bool true,vN 5,vN 0,J I 0 0,J I 0 0] 69)).alloc (Ob #[.string ⟨#[78,111,110,101]⟩,J I 0 0,.string ⟨#[83,111,109,101]⟩,J (aS (E (U w)+1)) 1 1] 67))/\(((w.alloc (Ob #[.string ⟨#[79,112,116,105,111,110]⟩,vN (-1),vN 0,.bool true,.bool true,.bool true,vN 0,vN 1,J (aS (E (U w)+2)) 2 2,vN (-1)] 64)).alloc (Ob #[.string ⟨#[]⟩,.bool true,vN 5,vN 0,J I 0 0,J I 0 0] 69)).alloc (Ob #[.string ⟨#[78,111,110,101]⟩,J I 0 0,.string ⟨#[83,111,109,101]⟩,J (aS (E (U w)+1)) 1 1] 67)).heap[E (U w)]? =some (Ob #[.string ⟨#[79,112,116,105,111,110]⟩,vN (-1),vN 0,.bool true,.bool true,.bool true,vN 0,vN 1,J (aS (E (U w)+2)) 2 2,vN (-1)] 64 (0,0))/\(((w.alloc (Ob #[.string ⟨#[79,112,116,105,111,110]⟩,vN (-1),vN 0,.bool true,.bool true,.bool true,vN 0,vN 1,J (aS (E (U w)+2)) 2 2,vN (-1)] 64)).alloc (Ob #[.string ⟨#[]⟩,.bool true,vN 5,vN 0,J I 0 0,J I 0 0] 69)).alloc (Ob #[.string ⟨#[78,111,110,101]⟩,J I 0 0,.string ⟨#[83,111,109,101]⟩,J (aS (E (U w)+1)) 1 1] 67)).heap[E (U w)+1]? =some (Ob #[.string ⟨#[]⟩,.bool true,vN 5,vN 0,J I 0 0,J I 0 0] 69 (0,0))/\(((w.alloc (Ob #[.string ⟨#[79,112,116,105,111,110]⟩,vN (-1),vN 0,.bool true,.bool true,.bool true,vN 0,vN 1,J (aS (E (U w)+2)) 2 2,vN (-1)] 64)).alloc (Ob #[.string ⟨#[]⟩,.bool true,vN 5,vN 0,J I 0 0,J I 0 0] 69)).alloc (Ob #[.string ⟨#[78,111,110,101]⟩,J I 0 0,.string ⟨#[83,111,109,101]⟩,J (aS (E (U w)+1)) 1 1] 67)).heap[E (U w)+2]? =some (Ob #[.string ⟨#[78,111,110,101]⟩,J I 0 0,.string ⟨#[83,111,109,101]⟩,J (aS (E (U w)+1)) 1 1] 67 (0,0))):=⟨d,e,b,c⟩;clear d e b c;go_enter Tryz.func25,Tryz.ntmps25
 go_wp2_with fail;go_light;obtain⟨d,e,b,c⟩:=l.out;refine bodyPost_ret (pd Tryz.results25 Q e) Q ⟨Q,d,?_⟩;have m:=(gE c).1;obtain⟨o,p⟩:=dz (S:=λq=>E (U w)<=q) (D:=D) (w:=((w.alloc (Ob #[.string ⟨#[79,112,116,105,111,110]⟩,vN (-1),vN 0,.bool true,.bool true,.bool true,vN 0,vN 1,J (aS (E (U w)+2)) 2 2,vN (-1)] 64)).alloc (Ob #[.string ⟨#[]⟩,.bool true,vN 5,vN 0,J I 0 0,J I 0 0] 69)).alloc (Ob #[.string ⟨#[78,111,110,101]⟩,J I 0 0,.string ⟨#[83,111,109,101]⟩,J (aS (E (U w)+1)) 1 1] 67)) (kind:=5) (n:=0) ⟨λr=>absurd r dC,dC,dC⟩;refine⟨⟨some ⟨E (U w)+2,0,I⟩,2,Q,Q,λ_=>⟨E (U w)+2,Q,oM,m,λa f=>?_⟩⟩,?_,(show(2:Nat)<=30000 by decide),λk=>?_⟩
 ·rw[cell_of_row _ _ a _ 67 (0,0) c];have:a<4:=f;match a,this with
  |0,_=>rfl
  |1,_=>rfl
  |2,_=>rfl
  |3,_=>rfl
 ·intro t i;rcases List.mem_cons.1 i with rfl|i
  ·exact⟨mr _ _ _,dC,λs j=>by cases j⟩
  ·obtain rfl:=List.mem_singleton.1 i;refine⟨⟨some ⟨E (U w)+1,0,I⟩,1,Q,Q,λ_=>⟨E (U w)+1,Q,oM,(gE b).1,λa f=>?_⟩⟩,(show(1:Nat)<=30000 by decide),λs j=>?_⟩
   ·rw[cell_of_row _ _ a _ 69 (0,0) b];have:a<6:=f;match a,this with
    |0,_=>rfl
    |1,_=>rfl
    |2,_=>rfl
    |3,_=>rfl
    |4,_=>rfl
    |5,_=>rfl
   ·obtain rfl:=List.mem_singleton.1 j;exact⟨_,_,_,_,_,_,_,_,_,_,Q,o⟩
 ·have:=p k;show 0+(aU k _ _+0+0)<=1;rw[Nat.zero_add,Nat.add_zero,Nat.add_zero];exact this
section
variable{im nd wt:Array Value} {a fa fk how k next one:Int} {M:MK} {H Xd Xf Xi cb mb:Nat} {Mu Mu0:Nat->Prop} {fns ims trs:VV} {w w' wr:World}
abbrev CK.fy (K0:CK) (mb mod:Nat) (kind n:Int) (lo:OA) (ln lc:Nat) (ao:OA) (an ac:Nat):CK:={mb:=mb,mod:=mod,aw:=K0.aw,cO:=K0.cO,aZ:=K0.aZ,cj:=K0.cj,tcp:=K0.tcp,bg:=K0.bg,bR:=true,sk:=kind,sn:=n,iK:=lo,iL:=ln,iM:=lc,iN:=ao,iO:=an,iP:=ac}
structure CB (w:World) (cb:Nat) (K:CK) (how next one fk fa:Int) (Mu:Nat->Prop):Prop where
 c:bP w cb K how next one fk fa
 mu:Mu cb
 lv:w.ownsRow 0 9 1 (J K.aw (O K.aZ) K.cO) (O K.aZ) (cd K.aZ)
 lf:O K.aZ<=30000
 tv:w.ownsRow 0 9 1 (J K.cj (O K.bg) K.tcp) (O K.bg) (cd K.bg)
 tf:O K.bg<=30000
 nl:∀b,(Value.slice K.aw (O K.aZ) K.cO).ownBlock=some b->¬Mu b
 nt:∀b,(Value.slice K.cj (O K.bg) K.tcp).ownBlock=some b->¬Mu b
theorem MS.sig {kb:Nat} {K:CK} {A:Nat->Prop} {X n:Nat} {e:Ending} (h:MS w mb M trs ims fns Xd Xi Xf Mu H) (C:bP w kb K how next one fk fa) (D:Mu kb) (hS:∀b,A b->¬Mu b) (F:fV w mb kb M K A X n e w'):
 ∃(x:Int) (d:OA) (f:Nat) (c:VV) (i:OA) (j:Nat) (l:VV) (m o:Int) (p:OA) (q r:Nat) (s:OA) (t u:Nat) (k a:Int) (y:Nat),e=.returned (.tuple #[.agg (eV x aF aF d (O c) f (vN m) (vN o) (J p q r) (J s t u)),J i (O l) j])/\MS w' mb (M.bt k a) trs ims fns Xd Xi Xf Mu y/\H<=y/\(M.fk≠0->k=M.fk)/\KX (λb=>b=kb\/b=mb) (E (U w)) w w'/\nr (λb=>¬Mu b) (O M.ds) y w' d f c i j l (ai m o (J p q r) (J s t u)).toList X/\(k=0->O c=n):=by
 obtain⟨x,d,f,c,i,j,l,m,o,p,q,r,s,t,u,T,V,W,Y,Z,k,a,G,L,aa,N,P,z,R,S⟩:=F;refine⟨x,d,f,c,i,j,l,m,o,p,q,r,s,t,u,k,a,max H G,L,(h.step (z.mono (λb _ e=>by rcases e with rfl|rfl;exact D;exact h.dT) (lR _)) (KT.kx C h.mk' z) N).le (Nat.le_max_left _ _),Nat.le_max_left _ _,P,z,(R.zK.weaken (λb v _ B=>?_)).le (Nat.le_max_right _ _) (lR _),S⟩;rcases v with v|v
 ·exact hS b v B
 ·have:=h.mlt b B;omega
structure ME (w:World) (mb cb:Nat) (M:MK) (trs ims fns:VV) (Xd Xi Xf:Nat) (Mu0 Mu:Nat->Prop) (H:Nat) (nd im wt cv:Array Value) (wr:World) (k a:Int):Prop where
 s:MS wr mb (M.bt k a) trs ims fns Xd Xi Xf Mu H
 kx:KX Mu0 (E (U w)) w wr
 nb:wr.heap[E (U w)]? =some (Ob nd 46 (0,0))
 ib:wr.heap[E (U w)+1]? =some (Ob im 71 (0,0))
 tb:wr.heap[E (U w)+2]? =some (Ob wt 97 (0,0))
 vE:wr.heap[cb]? =some (Ob cv 126 (0,0))
 eS:cb<E (U w)
 m0:Mu0 mb
 m1:∀b,Mu0 b->Mu b
 m2:∀b,b<E (U w)->Mu b->Mu0 b
 hf:M.fk≠0->k=M.fk
 kt:KT (λt=>t≠58/\t≠88/\t≠126) w wr
section
variable{w wr w':World} {mb cb:Nat} {M:MK} {trs ims fns:VV} {Xd Xi Xf:Nat} {Mu0 Mu:Nat->Prop} {H:Nat} {nd im wt cv:Array Value} {k a k' a':Int}
theorem ME.below (q:ME w mb cb M trs ims fns Xd Xi Xf Mu0 Mu H nd im wt cv wr k a) (b:Below (E (U wr)) wr w'):ME w mb cb M trs ims fns Xd Xi Xf Mu0 Mu H nd im wt cv w' k a:=by
 have c:∀{d:Nat} {e:Obj},wr.heap[d]? =some e->w'.heap[d]? =some e:=λ{d e} h=>(b.block d (gE h).1).trans h;exact⟨q.s.below b,q.kx.trans ((KX.aq b).mono (λ_ _ h=>h) q.kx.size),c q.nb,c q.ib,c q.tb,c q.vE,q.eS,q.m0,q.m1,q.m2,q.hf,q.kt.trans (KT.below b)⟩
theorem ME.no (q:ME w mb cb M trs ims fns Xd Xi Xf Mu0 Mu H nd im wt cv wr k a) (c:Kp (E (U wr)) mb wr w') (m:cF w' mb ((M.bt k a).bt k' a')) (n:(M.bt k a).fk≠0->k'=(M.bt k a).fk):ME w mb cb M trs ims fns Xd Xi Xf Mu0 Mu H nd im wt cv w' k' a':=by
 have d:∀{e:Nat} {i:Array Value} {b:TypeId} {j:Nat × Nat},wr.heap[e]? =some (Ob i b j)->b≠88->w'.heap[e]? =some (Ob i b j):=λ{e i b j} h f=>(c.block e (gE h).1 (aI h q.s.mk' f)).trans h;exact⟨q.s.no m c,q.kx.trans ((KX.cN c q.m0).mono (λ_ _ h=>h) q.kx.size),d q.nb dC,d q.ib dC,d q.tb dC,d q.vE dC,q.eS,q.m0,q.m1,q.m2,λh=>by have l:=q.hf h;have:=n (by show k≠0;rw[l];exact h);rw[this];exact l,q.kt.trans ((KT.mb q.s.mk' c).mono (λb f=>⟨f.2.2,f.2.1⟩))⟩
end
def jH (w:World) (mb cb:Nat) (M:MK) (trs ims fns:VV) (Xd Xi Xf:Nat) (Mu:Nat->Prop) (H Y:Nat) (e:Ending) (w':World):Prop:=
 ∃(k a:Int) (fns':VV) (fo:OA) (fc:Nat) (Mu':Nat->Prop) (Xf' H':Nat),e=.returned (.tuple #[])/\MS w' mb ({M with fv:=J fo (O fns') fc}.bt k a) trs ims fns' Xd Xi Xf' Mu' H'/\KX Mu (E (U w)) w w'/\w'.heap[cb]? =w.heap[cb]? /\(∀b,Mu b->Mu' b)/\(∀b,b<E (U w)->Mu' b->Mu b)/\H<=H'/\(M.fk≠0->k=M.fk)/\Xf'<=Xf+Y/\O fns'<=O fns+1/\(k=0->O fns'=O fns+1)/\KT (λt=>t≠58/\t≠88/\t≠126) w w'
theorem ME.stop {b Y:Nat} {K:CK} (q:ME w mb cb M trs ims fns Xd Xi Xf Mu0 Mu H nd im wt (dL K how next one fk fa) wr k a) (c:bP w cb K how next one fk fa) {fo:OA} {fc:Nat} (d:M.fv=J fo (O fns) fc) (e:b<=H) (f:k≠0):jH w mb cb M trs ims fns Xd Xi Xf Mu0 b Y (.returned (.tuple #[])) wr:=
 ⟨k,a,fns,fo,fc,Mu,Xf,H,Q,by rw[<-d];exact q.s,q.kx,q.vE.trans c.symm,q.m1,q.m2,e,q.hf,oM,oM,λi=>absurd i f,q.kt⟩
end
end Go.Proofs.YtcnnibahjmekdaaGreat
