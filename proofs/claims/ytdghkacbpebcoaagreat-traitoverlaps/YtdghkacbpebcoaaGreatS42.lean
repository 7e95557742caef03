import Derived.Test.YtdghkacbpebcoaaGreatS41
namespace Go.Proofs.YtdghkacbpebcoaaGreat
open Go.RowKit
open Value renaming slice→J
open List renaming length→O
open Option renaming none→I
open World renaming heap→U
open _root_.Array renaming size→E
open Obj renaming cells→Ob
set_option linter.all false
set_option maxRecDepth 100000
set_option maxHeartbeats 0
section
variable{M:MK} {H Xd Xf Xi mb:Nat} {Mu:Nat->Prop} {fns au trs:VV} {w:World}
structure DM (w:World) (mb:Nat) (M:MK) (trs au fns:VV) (Xd Xi Xf:Nat) (Mu:Nat->Prop) (H:Nat) (nd im:Array Value) (wr:World):Prop where
 s:MS wr mb M trs au fns Xd Xi Xf Mu H
 below:Below (E (U w)) w wr
 nb:wr.heap[E (U w)]? =some (Ob nd 48 (0,0))
 ib:wr.heap[E (U w)+1]? =some (Ob im 43 (0,0))
theorem DM.drewN {a b:Array Value} {wr:World} (q:DM w mb M trs au fns Xd Xi Xf Mu H a b wr) (n:Nat):DM w mb M trs au fns Xd Xi Xf Mu H a b (wr.drewN n):=⟨q.s.below (fI (Below.refl _ _) n),fI q.below n,q.nb,q.ib⟩
def zm (g:Bool) (kind:Int) (nv ng nl:Nat) (ai:Int):Prop:=g=true->kind=4/\nv=ng/\(nl:Int)=ai
def um (w:World) (mb:Nat) (M:MK) (trs au fns:VV) (Xd Xi Xf:Nat) (Mu:Nat->Prop) (H:Nat) (e:Ending) (w':World):Prop:=
 ∃(ds:List Dd) (k a:Int),e=.returned (.tuple #[])/\O ds=O M.ds/\MS w' mb ({M with ds:=ds}.bu k a) trs au fns Xd Xi Xf Mu H/\KX Mu (E (U w)) w w'/\(M.fk≠0->k=M.fk)/\KT (λt=>t≠69/\t≠66) w w'
theorem rD (h:MS w mb M trs au fns Xd Xi Xf Mu H) {pos R m:Int} {name:ByteArray} {kv:Value} {F mod G j:Int} {u:OA} {z:Nat} {c:VV} {kind n:Int} {s:OA} {v:Nat} {ls:List Int} {t:OA} {y:Nat} {e:VV} {fo:OA} {K fc:Nat} {S bo:Nat->Prop} {ax:Nat} (A:af S (Gd (O M.ds)) ax w (ak kind n (J s (O ls) v) (J t (O e) y)).toList) (ay:ro w S 1 (J s (O ls) v) (O ls) (aN ls)) (aZ:ro w S 4 (J t (O e) y) (O e) e.flatten) (a0:Gd (O M.ds) kind n (O ls) (O e)) (aG:∀x∈e,af S (Gd (O M.ds)) ax w x) (a1:ro w bo 2 (J u (O c) z) (O c) c.flatten) (aH:∀x∈c,wA x) (a2:O c<=30000) (ac:O ls<=30000) (ad:Int):
 Calls Tryz.prog 71 #[.pointer (aS mb),.agg (ae 7 pos R m name kv),.agg (bR F mod G j (J u (O c) z) kind n (J s (O ls) v) (J t (O e) y) (J fo K fc)),vN ad] w (um w mb M trs au fns Xd Xi Xf Mu H):=by
 have a3:Hid (Gd (O M.ds) kind n (O ls) (O e)):=a0
 have bp:Hid (∀l,l<O e->∃g L N,t=some ⟨g,0,I⟩/\g<E (U w)/\w.cell? ⟨g,l*4,I⟩=some (vN L)/\w.cell? ⟨g,l*4+1,I⟩=some (vN N)):=by
  intro l W;obtain⟨g,ag,o,hS,k,X⟩:=aZ.nth (λx Y=>af.four _ _ (aG x Y)) W;obtain⟨rfl,rfl⟩:t=some ⟨g,0,I⟩/\y=ag:=sU o;obtain⟨L,N,bP,bQ,bS,bT,bV,bW,bq⟩:=af.cells _ (aG _ (List.getElem_mem W));have a4:=X 0 dC;have ah:=X 1 dC;rw[bq] at a4 ah;exact⟨g,L,N,Q,k,sU a4,sU ah⟩
 have br:Hid (∀l,l<O c->∃g aI aK aL,u=some ⟨g,0,I⟩/\g<E (U w)/\w.cell? ⟨g,l*2,I⟩=some (J aI aK aL)):=by
  intro l W;obtain⟨x,Y⟩:∃x,c[l]? =some x:=⟨_,gG W⟩;obtain⟨g,ag,o,k,X⟩:=a1.lJ Q (λx Y=>by obtain⟨Z,P,ah,az,aa,bs,rfl⟩:=aH x Y;rfl) Y;obtain⟨rfl,rfl⟩:u=some ⟨g,0,I⟩/\z=ag:=sU o;obtain⟨Z,P,ah,az,aa,bs,rfl⟩:=aH x (mG Y);exact⟨g,Z,P,ah,Q,k,X 0 dC⟩
 have bt:Hid (∀l,l<O ls->∃g aM,s=some ⟨g,0,I⟩/\g<E (U w)/\w.cell? ⟨g,l,I⟩=some (vN aM)):=by
  intro l W;obtain⟨bu,ag,o,bv,bw⟩:=ay;obtain⟨g,aA,hS,k,X⟩:=bw oM;obtain⟨rfl,-⟩:s=bu/\v=ag:=sU o;refine⟨g,ls[l],aA,k,?_⟩;rw[X l oM];unfold aN;rw[List.getElem?_map,gG W];rfl
 obtain⟨Z,az,a5⟩:=dW w (Ob (ae 7 pos R m name kv) 48) (Ob (bR F mod G j (J u (O c) z) kind n (J s (O ls) v) (J t (O e) y) (J fo K fc)) 43);have ai:DM w mb M trs au fns Xd Xi Xf Mu H (ae 7 pos R m name kv) (bR F mod G j (J u (O c) z) kind n (J s (O ls) v) (J t (O e) y) (J fo K fc)) ((w.alloc (Ob (ae 7 pos R m name kv) 48)).alloc (Ob (bR F mod G j (J u (O c) z) kind n (J s (O ls) v) (J t (O e) y) (J fo K fc)) 43)):=⟨h.below Z,Z,az,a5⟩
 have bX:O e<=30000:=by
  cases ax with
  |zero=>exact absurd A (λx=>x)
  |succ ax=>
   obtain⟨bY,o,bv,-⟩:=A.args;omega
 clear h A ay aZ a0 aG a1 aH Z az a5;go_enter Tryz.func71,Tryz.ntmps71
 go_upto_region 1 with fail
 go_cut [8] (λbx bz=>∃g:Bool,bx=.bool g/\zm g kind (O e) (O c) (O ls) j/\DM w mb M trs au fns Xd Xi Xf Mu H (ae 7 pos R m name kv) (bR F mod G j (J u (O c) z) kind n (J s (O ls) v) (J t (O e) y) (J fo K fc)) bz)
 case first=>
  by_cases ab:kind=4
  ·subst ab;by_cases aB:O e=O c
   ·have bA:((O e:Int)==(O c:Int))=true:=by simp[aB]
    by_cases ac:(O ls:Int)=j
    ·have bB:((O ls:Int)==j)=true:=by simp[ac]
     have bC:Hid (O e=O c/\(O ls:Int)=j):=⟨aB,ac⟩;clear aB ac;go_wp2_with fail;go_meet;exact⟨true,Q,λ_=>⟨Q,bC.out⟩,ai⟩
    ·have bB:((O ls:Int)==j)=false:=sU ac;clear aB;go_wp2_with fail;go_meet;exact⟨false,Q,λo=>(by cases o),ai⟩
   ·have bA:((O e:Int)==(O c:Int))=false:=by simp;omega
    go_wp2_with fail;go_meet;exact⟨false,Q,λo=>(by cases o),ai⟩
  ·have bZ:(kind==4)=false:=eF ab;go_wp2_with fail;go_meet;exact⟨false,Q,λo=>(by cases o),ai⟩
 case rest=>
  clear ai;obtain⟨bD,rfl,k,a⟩:=hcut;go_wp2_with fail;go_loopg [8,9] (O c) (λT aO aP wr=>∃(i:Nat) (g:Bool),T=O c - i/\aP=vN i/\aO=.bool g/\i<=O c/\zm g kind (O e) (O c) (O ls) j/\DM w mb M trs au fns Xd Xi Xf Mu H (ae 7 pos R m name kv) (bR F mod G j (J u (O c) z) kind n (J s (O ls) v) (J t (O e) y) (J fo K fc)) wr)
  case atStart=>exact⟨0,bD,Q,Q,Q,zL _,k,a⟩
  case round=>
   clear a k;obtain⟨i,g,a6,rfl,rfl,b0,k,a⟩:=hrel;have aQ:Hid (gk=O c - i):=a6;clear a6;have a7:=λB=>cell_of_row wr _ B _ 48 (0,0) a.nb;have a8:E (U w)<E (U wr):=(gE a.nb).1;have a9:=λB=>cell_of_row wr _ B _ 43 (0,0) a.ib;have a':E (U w)+1<E (U wr):=(gE a.ib).1;have ba:=a.s.mk'.cell;have bb:=a.s.mk'.fz;have bc:=a.s.mk'.lt
   cases g
   case' true=>
    by_cases aC:i<O c
    ·have bd:(i:Int)<(O c:Int):=oM;obtain⟨aj,L,N,rfl,bf,al,bg⟩:=bp.out i (oH (k Q).2.1);obtain⟨T,aI,aK,aL,rfl,bE,aA⟩:=br.out i aC;have b1:(i:Int)<(O e:Int):=oH (k Q).2.1;have al:wr.cell? ⟨aj,i*4,I⟩=some (vN L):=(a.below.cell (p:=⟨aj,i*4,I⟩) bf).trans al;have bg:wr.cell? ⟨aj,i*4+1,I⟩=some (vN N):=(a.below.cell (p:=⟨aj,i*4+1,I⟩) bf).trans bg;have aA:wr.cell? ⟨T,i*2,I⟩=some (J aI aK aL):=(a.below.cell (p:=⟨T,i*2,I⟩) bE).trans aA;have b2:aj<E (U wr):=oM;have b3:T<E (U wr):=oM;have ao:Hid (kind=4/\O e=O c/\(O ls:Int)=j):=k Q;clear k;by_cases P:L=5
     ·have bF:(L==5)=true:=eT P;by_cases aa:N=(i:Int)
      ·have bG:(N==(i:Int))=true:=eT aa;clear P aa;go_wp2_with fail;go_roundg (O c - (i+1))
       case measure=>rw[aQ.out];omega
       case rel=>exact⟨i+1,_,Q,by go_num,Q,aC,λ_=>ao.out,a⟩
      ·have bG:(N==(i:Int))=false:=eF aa;clear P aa;go_wp2_with fail;go_roundg (O c - (i+1))
       case measure=>rw[aQ.out];omega
       case rel=>exact⟨i+1,_,Q,by go_num,Q,aC,λ_=>ao.out,a⟩
     ·have bF:(L==5)=false:=eF P;clear P;go_wp2_with fail;go_roundg (O c - (i+1))
      case measure=>rw[aQ.out];omega
      case rel=>exact⟨i+1,_,Q,by go_num,Q,aC,λ_=>ao.out,a⟩
    have bd:¬(i:Int)<(O c:Int):=oM;have b4:decide ((i:Int)<(O c:Int))=false:=sU bd
   all_goals
    go_wp2_with fail;clear a7 a8 a9 a' ba bb bc;go_loopg [8,10] (O ls) (λT aO aP wr=>∃(q:Nat) (aD:Bool),T=O ls - q/\aP=vN q/\aO=.bool aD/\q<=O ls/\zm aD kind (O e) (O c) (O ls) j/\DM w mb M trs au fns Xd Xi Xf Mu H (ae 7 pos R m name kv) (bR F mod G j (J u (O c) z) kind n (J s (O ls) v) (J t (O e) y) (J fo K fc)) wr)
    case atStart=>exact⟨0,_,Q,Q,Q,zL _,k,a⟩
    case round=>
     clear a k;obtain⟨q,aD,bh,rfl,rfl,b5,k,a⟩:=hrel;have bH:Hid (gk=O ls - q):=bh;clear bh;have a7:=λB=>cell_of_row wr _ B _ 48 (0,0) a.nb;have a8:E (U w)<E (U wr):=(gE a.nb).1;have a9:=λB=>cell_of_row wr _ B _ 43 (0,0) a.ib;have a':E (U w)+1<E (U wr):=(gE a.ib).1;have ba:=a.s.mk'.cell;have bb:=a.s.mk'.fz;have bc:=a.s.mk'.lt
     cases aD
     ·go_wp2_with fail;go_quiet (fail)
      go_wp2_with fail;have f:=a.drewN nq;refine(bU f.s.mk' _ _).mono ?_;rintro o bi ⟨⟨ap,aq,rfl,ar,C,av⟩,-⟩;have aw:=f.s.no ar C;go_wp2_with fail;go_end0;exact⟨M.ds,ap,aq,Q,Q,aw,(KX.al f.below).trans ((KX.cI C f.s.dG).mono (λ_ _ h=>h) f.below.size),av,(KT.below f.below).trans ((KT.yD f.s.mk' C).mono (λaR A=>A.2))⟩
     ·by_cases bj:q<O ls
      ·have bk:(q:Int)<j:=oH (k Q).2.2;obtain⟨aT,aM,rfl,a2,al⟩:=bt.out q bj;have b6:(q:Int)<(O ls:Int):=oM;have al:wr.cell? ⟨aT,q,I⟩=some (vN aM):=(a.below.cell (p:=⟨aT,q,I⟩) a2).trans al;have b7:aT<E (U wr):=oM;have ao:Hid (kind=4/\O e=O c/\(O ls:Int)=j):=k Q;clear k;go_wp2_with fail;go_roundg (O ls - (q+1))
       case measure=>rw[bH.out];omega
       case rel=>exact⟨q+1,_,Q,by go_num,Q,bj,λ_=>ao.out,a⟩
      ·have bk:¬(q:Int)<j:=oH (k Q).2.2;have b8:decide ((q:Int)<j)=false:=sU bk;obtain⟨ab,-,-⟩:=k Q;obtain⟨r,rfl⟩:∃r:Nat,n=(r:Int):=⟨n.toNat,oH (a3.out.2.1 ab).1⟩;have b9:(r:Int)<(O M.ds:Int):=(a3.out.2.1 ab).2;obtain⟨d,aU⟩:∃d,M.ds[r]? =some d:=⟨_,gG oM⟩;obtain⟨g,aV,b',aW⟩:=a.s.pi.data (i:=r) (d:=d) aU;have ca:=a.s.pi.bj.2.1;have V:Hid (M.ds[r]? =some d/\M.df=some ⟨g,0,I⟩):=⟨aU,aV⟩;have bI:wr.cell? ⟨g,r*10+4,I⟩=some (.bool d.copy):=aW 4 dC;have bJ:wr.cell? ⟨g,r*10+9,I⟩=some (vN d.drop):=aW 9 dC;obtain⟨aX,bl⟩:∃aX,d.copy=aX:=⟨_,Q⟩;obtain⟨aE,bm⟩:∃aE,d.drop=aE:=⟨_,Q⟩;rw[bl] at bI;rw[bm] at bJ;have cb:M.df=some ⟨g,0,I⟩:=aV;clear aW aU aV bl bm ab
       cases aX
       ·by_cases bK:r=0
        ·subst bK;go_wp2_with fail;go_quiet (fail)
         go_wp2_with fail;have f:=a.drewN nq;refine(bU f.s.mk' _ _).mono ?_;rintro o bi ⟨⟨ap,aq,rfl,ar,C,av⟩,-⟩;have aw:=f.s.no ar C;go_wp2_with fail;go_end0;exact⟨M.ds,ap,aq,Q,Q,aw,(KX.al f.below).trans ((KX.cI C f.s.dG).mono (λ_ _ h=>h) f.below.size),av,(KT.below f.below).trans ((KT.yD f.s.mk' C).mono (λaR A=>A.2))⟩
        ·have cc:((r:Int)==0)=false:=by simp;omega
         obtain⟨cd,aF⟩:=aY a.s.pi.cd (b:=g) (by rw[V.out.2];rfl);have ce:wr.frozen? ⟨g,r*10+9,I⟩=false:=frozen_of_row wr g _ _ 69 aF;have bL:mb≠g:=aJ a.s.mk' aF dC;have bM:E (U w)+1≠g:=aJ a.ib aF dC;have bn:Hid (∀{D:World},D.heap[mb]? =wr.heap[mb]? ->D.heap[E (U w)+1]? =wr.heap[E (U w)+1]? ->(Ce D mb (jM M))/\(Ce D (E (U w)+1) (bR F mod G j (J u (O c) z) kind (r:Int) (J s (O ls) v) (J t (O e) y) (J fo K fc)))):=λ{D} bN ay=>⟨λB=>cell_of_row D _ B _ 66 (0,0) (bN.trans a.s.mk'),λB=>cell_of_row D _ B _ 43 (0,0) (ay.trans a.ib)⟩;clear aF;by_cases bO:aE<0
         ·go_wp2_with fail;go_quiet (fail)
          go_wp2_with fail;go_quiet (fail)
          go_wp2_with fail;go_region_held3 (λD=>(Ce D mb (jM M))/\(Ce D (E (U w)+1) (bR F mod G j (J u (O c) z) kind (r:Int) (J s (O ls) v) (J t (O e) y) (J fo K fc)))) (first|assumption|exact bn.out Q rfl|exact bn.out (Below.heap_setCell _ ⟨g,_,I⟩ _ _ bL) (Below.heap_setCell _ ⟨g,_,I⟩ _ _ bM)) (fail)
          go_wp2_with fail;go_end0;exact⟨M.ds.set r (d.vg ad),M.fk,M.fa,Q,List.length_set,((a.drewN _).s.mj V.out.1 V.out.2 ad).1,(KX.al (a.drewN _).below).trans (((a.drewN _).s.mj V.out.1 V.out.2 ad).2.1.mono (λ_ _ h=>h) (a.drewN _).below.size),λ_=>rfl,(KT.below (a.drewN _).below).trans (((a.drewN _).s.mj V.out.1 V.out.2 ad).2.2.mono (λaR A=>A.1))⟩
         ·have cf:decide (aE<0)=false:=sU bO;go_wp2_with fail;go_quiet (fail)
          go_wp2_with fail;go_quiet (fail)
          go_wp2_with fail;go_end0;exact⟨M.ds,M.fk,M.fa,Q,Q,a.s.below (fI (fI (Below.refl _ _) _) _),KX.al (fI (fI a.below _) _),λ_=>rfl,KT.below (fI (fI a.below _) _)⟩
       ·go_wp2_with fail;go_quiet (fail)
        go_wp2_with fail;have f:=a.drewN nq;refine(bU f.s.mk' _ _).mono ?_;rintro o bi ⟨⟨ap,aq,rfl,ar,C,av⟩,-⟩;have aw:=f.s.no ar C;go_wp2_with fail;go_end0;exact⟨M.ds,ap,aq,Q,Q,aw,(KX.al f.below).trans ((KX.cI C f.s.dG).mono (λ_ _ h=>h) f.below.size),av,(KT.below f.below).trans ((KT.yD f.s.mk' C).mono (λaR A=>A.2))⟩
end
theorem oW {c:Func} {r:Nat} (l:c.results=#[.cell r 69]) {a:Array Value} {b:Nat} (m:a.getD r undef=.pointer (aS b)) {W:World} {c0 c1 c2 c3 d e f i j k:Value} (n:W.heap[b]? =some (Ob #[c0,c1,c2,c3,d,e,f,i,j,k] 69 (0,0))):
 (results c a).run Tryz.prog W=.ok (.agg #[c0,c1,c2,c3,d,e,f,i,j,k]) W:=by
 have o:=λp=>cell_of_row W b p _ 69 (0,0) n;have q:a[r]?.getD undef=.pointer (aS b):=sU m;simp[results,l,q,go_sem,o]
def mB (w:World):Dd:=⟨⟨#[79,112,116,105,111,110]⟩,-1,0,true,true,true,0,1,some ⟨E (U w)+2,0,I⟩,2,[⟨⟨#[78,111,110,101]⟩,I,0,[]⟩,⟨⟨#[83,111,109,101]⟩,some ⟨E (U w)+1,0,I⟩,1,[⟨⟨#[]⟩,true,(ak 5 0 (J I 0 0) (J I 0 0)).toList⟩]⟩],-1⟩
def wO (w:World) (D:Nat) (e:Ending) (w':World):Prop:=e=.returned (.agg (mB w).c.toArray)/\Below (E (U w)) w w'/\eG (λb=>E (U w)<=b) D 1 1 w' (mB w)
theorem sO (D:Nat) {w:World}:Calls Tryz.prog 20 #[] w (wO w D):=by
 obtain⟨d,e,b,c⟩:=mZ w (Ob #[.string ⟨#[79,112,116,105,111,110]⟩,vN (-1),vN 0,.bool true,.bool true,.bool true,vN 0,vN 1,J (aS (E (U w)+2)) 2 2,vN (-1)] 69) (Ob #[.string ⟨#[]⟩,.bool true,vN 5,vN 0,J I 0 0,J I 0 0] 97) (Ob #[.string ⟨#[78,111,110,101]⟩,J I 0 0,.string ⟨#[83,111,109,101]⟩,J (aS (E (U w)+1)) 1 1] 95);have l:Hid (Below (E (U w)) w (((w.alloc (Ob #[.string ⟨#[79,112,116,105,111,110]⟩,vN (-1),vN 0,.bool true,.bool true,.bool true,vN 0,vN 1,J (aS (E (U w)+2)) 2 2,vN (-1)] 69)).alloc (Ob #[.string ⟨#[]⟩,.bool true,vN 5,vN 0,J I 0 0,J I 0 0] 97)).alloc (Ob #[.string ⟨#[78,111,110,101]⟩,J I 0 0,.string ⟨#[83,111,109,101]⟩,J (aS (E (U w)+1)) 1 1] 95))/\(((w.alloc (Ob #[.string ⟨#[79,112,116,105,111,110]⟩,vN (-1),vN 0,.bool true,.bool true,.bool true,vN 0,vN 1,J (aS (E (U w)+2)) 2 2,vN (-1)] 69)).alloc (Ob #[.string ⟨#[]⟩,.bool true,vN 5,vN 0,J I 0 0,J I 0 0] 97)).alloc (Ob #[.string ⟨#[78,111,110,101]⟩,J I 0 0,.string ⟨#[83,111,109,101]⟩,J (aS (E (U w)+1)) 1 1] 95)).heap[E (U w)]? =some (Ob #[.string ⟨#[79,112,116,105,111,110]⟩,vN (-1),vN 0,.bool true,.bool true,.bool true,vN 0,vN 1,J (aS (E (U w)+2)) 2 2,vN (-1)] 69 (0,0))/\(((w.alloc (Ob #[.string ⟨#[79,112,116,105,111,110]⟩,vN (-1),vN 0,.bool true,.bool true,.bool true,vN 0,vN 1,J (aS (E (U w)+2)) 2 2,vN (-1)] 69)).alloc (Ob #[.string ⟨#[]⟩,.bool true,vN 5,vN 0,J I 0 0,J I 0 0] 97)).alloc (Ob #[.string ⟨#[78,111,110,101]⟩,J I 0 0,.string ⟨#[83,111,109,101]⟩,J (aS (E (U w)+1)) 1 1] 95)).heap[E (U w)+1]? =some (Ob #[.string ⟨#[]⟩,.bool true,vN 5,vN 0,J I 0 0,J I 0 0] 97 (0,0))/\(((w.alloc (Ob #[.string ⟨#[79,112,116,105,111,110]⟩,vN (-1),vN 0,.bool true,.bool true,.bool true,vN 0,vN 1,J (aS (E (U w)+2)) 2 2,vN (-1)] 69)).alloc (Ob #[.string ⟨#[]⟩,.bool true,vN 5,vN 0,J I 0 0,J I 0 0] 97)).alloc (Ob #[.string ⟨#[78,111,110,101]⟩,J I 0 0,.string ⟨#[83,111,109,101]⟩,J (aS (E (U w)+1)) 1 1] 95)).heap[E (U w)+2]? =some (Ob #[.string ⟨#[78,111,110,101]⟩,J I 0 0,.string ⟨#[83,111,109,101]⟩,J (aS (E (U w)+1)) 1 1] 95 (0,0))):=⟨d,e,b,c⟩;clear d e b c;go_enter Tryz.func20,Tryz.ntmps20
 go_wp2_with fail;go_light;obtain⟨d,e,b,c⟩:=l.out;refine bodyPost_ret (oW Tryz.results20 Q e) Q ⟨Q,d,?_⟩;have m:=(gE c).1;obtain⟨o,p⟩:=dz (S:=λq=>E (U w)<=q) (D:=D) (w:=((w.alloc (Ob #[.string ⟨#[79,112,116,105,111,110]⟩,vN (-1),vN 0,.bool true,.bool true,.bool true,vN 0,vN 1,J (aS (E (U w)+2)) 2 2,vN (-1)] 69)).alloc (Ob #[.string ⟨#[]⟩,.bool true,vN 5,vN 0,J I 0 0,J I 0 0] 97)).alloc (Ob #[.string ⟨#[78,111,110,101]⟩,J I 0 0,.string ⟨#[83,111,109,101]⟩,J (aS (E (U w)+1)) 1 1] 95)) (kind:=5) (n:=0) ⟨λr=>absurd r dC,dC,dC⟩;refine⟨⟨some ⟨E (U w)+2,0,I⟩,2,Q,Q,λ_=>⟨E (U w)+2,Q,oM,m,λa f=>?_⟩⟩,?_,(show(2:Nat)<=30000 by decide),λk=>?_⟩
 ·rw[cell_of_row _ _ a _ 95 (0,0) c];have:a<4:=f;match a,this with
  |0,_=>rfl
  |1,_=>rfl
  |2,_=>rfl
  |3,_=>rfl
 ·intro t i;rcases List.mem_cons.1 i with rfl|i
  ·exact⟨mq _ _ _,dC,λs j=>by cases j⟩
  ·obtain rfl:=List.mem_singleton.1 i;refine⟨⟨some ⟨E (U w)+1,0,I⟩,1,Q,Q,λ_=>⟨E (U w)+1,Q,oM,(gE b).1,λa f=>?_⟩⟩,(show(1:Nat)<=30000 by decide),λs j=>?_⟩
   ·rw[cell_of_row _ _ a _ 97 (0,0) b];have:a<6:=f;match a,this with
    |0,_=>rfl
    |1,_=>rfl
    |2,_=>rfl
    |3,_=>rfl
    |4,_=>rfl
    |5,_=>rfl
   ·obtain rfl:=List.mem_singleton.1 j;exact⟨_,_,_,_,_,_,_,_,_,_,Q,o⟩
 ·have:=p k;show 0+(bW k _ _+0+0)<=1;rw[Nat.zero_add,Nat.add_zero,Nat.add_zero];exact this
section
variable{im nd wt:Array Value} {a fa fk how k next one:Int} {M:MK} {H Xd Xf Xi cb mb:Nat} {Mu Mu0:Nat->Prop} {fns au trs:VV} {w w' wr:World}
abbrev CK.fu (K0:CK) (mb mod:Nat) (kind n:Int) (lo:OA) (ln lc:Nat) (ao:OA) (an ac:Nat):CK:={mb:=mb,mod:=mod,aD:=K0.aD,cJ:=K0.cJ,ba:=K0.ba,bZ:=K0.bZ,tcp:=K0.tcp,bt:=K0.bt,bO:=true,sk:=kind,sn:=n,iJ:=lo,iK:=ln,iL:=lc,iM:=ao,iN:=an,iO:=ac}
structure CB (w:World) (cb:Nat) (K:CK) (how next one fk fa:Int) (Mu:Nat->Prop):Prop where
 c:bJ w cb K how next one fk fa
 mu:Mu cb
 lv:w.ownsRow 0 9 1 (J K.aD (O K.ba) K.cJ) (O K.ba) (bX K.ba)
 lf:O K.ba<=30000
 tv:w.ownsRow 0 9 1 (J K.bZ (O K.bt) K.tcp) (O K.bt) (bX K.bt)
 tf:O K.bt<=30000
 nl:∀b,(Value.slice K.aD (O K.ba) K.cJ).ownBlock=some b->¬Mu b
 nt:∀b,(Value.slice K.bZ (O K.bt) K.tcp).ownBlock=some b->¬Mu b
theorem CB.step {K:CK} {Mu':Nat->Prop} (h:CB w cb K how next one fk fa Mu) (f:KX Mu (E (U w)) w w') (j:w'.heap[cb]? =w.heap[cb]?) (l:∀b,Mu b->Mu' b) (i:∀b,b<E (U w)->Mu' b->Mu b):CB w' cb K how next one fk fa Mu':=
 ⟨j.trans h.c,l _ h.mu,ah h.lv (λb c d=>f.block b d (h.nl b c)),h.lf,ah h.tv (λb c d=>f.block b d (h.nt b c)),h.tf,λb c e=>h.nl b c (i b (h.lv.lt b c).2 e),λb c e=>h.nt b c (i b (h.tv.lt b c).2 e)⟩
theorem MS.sig {kb:Nat} {K:CK} {A:Nat->Prop} {X n:Nat} {e:Ending} (h:MS w mb M trs au fns Xd Xi Xf Mu H) (C:bJ w kb K how next one fk fa) (D:Mu kb) (hS:∀b,A b->¬Mu b) (F:fU w mb kb M K A X n e w'):
 ∃(x:Int) (d:OA) (f:Nat) (c:VV) (i:OA) (j:Nat) (l:VV) (m o:Int) (p:OA) (q r:Nat) (s:OA) (t u:Nat) (k a:Int) (y:Nat),e=.returned (.tuple #[.agg (eO x aH aH d (O c) f (vN m) (vN o) (J p q r) (J s t u)),J i (O l) j])/\MS w' mb (M.bu k a) trs au fns Xd Xi Xf Mu y/\H<=y/\(M.fk≠0->k=M.fk)/\KX (λb=>b=kb\/b=mb) (E (U w)) w w'/\ot (λb=>¬Mu b) (O M.ds) y w' d f c i j l (ak m o (J p q r) (J s t u)).toList X/\(k=0->O c=n):=by
 obtain⟨x,d,f,c,i,j,l,m,o,p,q,r,s,t,u,T,V,W,Y,Z,k,a,G,L,aa,N,P,z,R,S⟩:=F;refine⟨x,d,f,c,i,j,l,m,o,p,q,r,s,t,u,k,a,max H G,L,(h.step (z.mono (λb _ e=>by rcases e with rfl|rfl;exact D;exact h.dG) (lR _)) (KT.kx C h.mk' z) N).le (Nat.le_max_left _ _),Nat.le_max_left _ _,P,z,(R.zt.weaken (λb v _ B=>?_)).le (Nat.le_max_right _ _) (lR _),S⟩;rcases v with v|v
 ·exact hS b v B
 ·have:=h.mlt b B;omega
structure ME (w:World) (mb cb:Nat) (M:MK) (trs au fns:VV) (Xd Xi Xf:Nat) (Mu0 Mu:Nat->Prop) (H:Nat) (nd im wt cv:Array Value) (wr:World) (k a:Int):Prop where
 s:MS wr mb (M.bu k a) trs au fns Xd Xi Xf Mu H
 kx:KX Mu0 (E (U w)) w wr
 nb:wr.heap[E (U w)]? =some (Ob nd 48 (0,0))
 ib:wr.heap[E (U w)+1]? =some (Ob im 43 (0,0))
 tb:wr.heap[E (U w)+2]? =some (Ob wt 81 (0,0))
 vt:wr.heap[cb]? =some (Ob cv 114 (0,0))
 eN:cb<E (U w)
 m0:Mu0 mb
 m1:∀b,Mu0 b->Mu b
 m2:∀b,b<E (U w)->Mu b->Mu0 b
 hf:M.fk≠0->k=M.fk
 kt:KT (λt=>t≠129/\t≠66/\t≠114) w wr
section
variable{w wr w':World} {mb cb:Nat} {M:MK} {trs au fns:VV} {Xd Xi Xf:Nat} {Mu0 Mu:Nat->Prop} {H:Nat} {nd im wt cv:Array Value} {k a k' a':Int}
theorem ME.below (q:ME w mb cb M trs au fns Xd Xi Xf Mu0 Mu H nd im wt cv wr k a) (b:Below (E (U wr)) wr w'):ME w mb cb M trs au fns Xd Xi Xf Mu0 Mu H nd im wt cv w' k a:=by
 have c:∀{d:Nat} {e:Obj},wr.heap[d]? =some e->w'.heap[d]? =some e:=λ{d e} h=>(b.block d (gE h).1).trans h;exact⟨q.s.below b,q.kx.trans ((KX.al b).mono (λ_ _ h=>h) q.kx.size),c q.nb,c q.ib,c q.tb,c q.vt,q.eN,q.m0,q.m1,q.m2,q.hf,q.kt.trans (KT.below b)⟩
theorem ME.no (q:ME w mb cb M trs au fns Xd Xi Xf Mu0 Mu H nd im wt cv wr k a) (c:Kp (E (U wr)) mb wr w') (m:cz w' mb ((M.bu k a).bu k' a')) (n:(M.bu k a).fk≠0->k'=(M.bu k a).fk):ME w mb cb M trs au fns Xd Xi Xf Mu0 Mu H nd im wt cv w' k' a':=by
 have d:∀{e:Nat} {i:Array Value} {b:TypeId} {j:Nat × Nat},wr.heap[e]? =some (Ob i b j)->b≠66->w'.heap[e]? =some (Ob i b j):=λ{e i b j} h f=>(c.block e (gE h).1 (aJ h q.s.mk' f)).trans h;exact⟨q.s.no m c,q.kx.trans ((KX.cI c q.m0).mono (λ_ _ h=>h) q.kx.size),d q.nb dC,d q.ib dC,d q.tb dC,d q.vt dC,q.eN,q.m0,q.m1,q.m2,λh=>by have l:=q.hf h;have:=n (by show k≠0;rw[l];exact h);rw[this];exact l,q.kt.trans ((KT.mb q.s.mk' c).mono (λb f=>⟨f.2.2,f.2.1⟩))⟩
end
def jE (w:World) (mb cb:Nat) (M:MK) (trs au fns:VV) (Xd Xi Xf:Nat) (Mu:Nat->Prop) (H Y:Nat) (e:Ending) (w':World):Prop:=
 ∃(k a:Int) (fns':VV) (fo:OA) (fc:Nat) (Mu':Nat->Prop) (Xf' H':Nat),e=.returned (.tuple #[])/\MS w' mb ({M with fv:=J fo (O fns') fc}.bu k a) trs au fns' Xd Xi Xf' Mu' H'/\KX Mu (E (U w)) w w'/\w'.heap[cb]? =w.heap[cb]? /\(∀b,Mu b->Mu' b)/\(∀b,b<E (U w)->Mu' b->Mu b)/\H<=H'/\(M.fk≠0->k=M.fk)/\Xf'<=Xf+Y/\O fns'<=O fns+1/\(k=0->O fns'=O fns+1)/\KT (λt=>t≠129/\t≠66/\t≠114) w w'
theorem ME.stop {b Y:Nat} {K:CK} (q:ME w mb cb M trs au fns Xd Xi Xf Mu0 Mu H nd im wt (dy K how next one fk fa) wr k a) (c:bJ w cb K how next one fk fa) {fo:OA} {fc:Nat} (d:M.fv=J fo (O fns) fc) (e:b<=H) (f:k≠0):jE w mb cb M trs au fns Xd Xi Xf Mu0 b Y (.returned (.tuple #[])) wr:=
 ⟨k,a,fns,fo,fc,Mu,Xf,H,Q,by rw[<-d];exact q.s,q.kx,q.vt.trans c.symm,q.m1,q.m2,e,q.hf,oM,oM,λi=>absurd i f,q.kt⟩
end
end Go.Proofs.YtdghkacbpebcoaaGreat
