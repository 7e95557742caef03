import Derived.Test.YtdghkacbpebcoaaGreatS29
import Derived.Test.YtdghkacbpebcoaaGreatS30
import Derived.Test.YtdghkacbpebcoaaGreatS31
namespace Go.Proofs.YtdghkacbpebcoaaGreat
open Go.RowKit
open Value renaming slice→J
open List renaming length→O
open Option renaming none→I
open World renaming heap→U
open _root_.Array renaming size→E
open Obj renaming cells→Ob
set_option linter.all false
set_option maxRecDepth 100000
set_option maxHeartbeats 0
theorem tP {h:Nat} (ai:bV h) {w:World} {d:Nat} {K:CK} {M:MK} {T:Nat} {t:Nat->Prop} {R L B0:Nat} {how next one fk fa:Int} (j:Cx w d K M T t R L) (N:bJ w d K how next one fk fa) (aK:B0<=d) {pos r m:Int} {name:ByteArray} {g:Nat} {kc nl:Nat} {ks:VV} (u:GN h B0 w (aS g) kc ks nl) {kind n:Int} (aj:(kind=4->0<=n/\n<(O M.ds:Int))/\kind≠5/\kind≠6/\kind≠7) (e:Nat) (al:Int) (hl:e<=6100) (bl:¬nl<O ks) (bm:e<=O ks) (bn:((O ks:Int) - (nl:Int) !=al)=false) (bo:((nl:Int) !=0)=true) (bp:((nl:Int)==0)=false) (bq:((nl:Int) !=(e:Int))=false):
 Calls Tryz.prog 84 #[.pointer (some ⟨d,0,I⟩),.agg (ae 18 pos r m name (J (some ⟨g,0,I⟩) (O ks) kc)),.agg (ak kind n (J I 0 0) (J I 0 0)),.int .i64 e,.int .i64 al] w (bE w d K how one t (O M.ds) ((1+(ks.map (aG h w)).sum)*L)):=by
 have aL:Hid (bV h):=@ai;clear ai;have br:=u.km;have bs:=u.uu;have bt:=u.tC;have aM:=j.z1;have aN:=N.lt;have S:Hid (Cx w d K M T (λc=>t c/\c<E (U w)) R L):=j.low;have ao:Hid (bJ w d K how next one fk fa):=N;have s:Hid (GN h B0 w (aS g) kc ks nl):=u;obtain⟨V,ap,ar,au⟩:=mZ w (Ob (ae 18 pos r m name (J (aS g) (O ks) kc)) 48) (Ob (ak kind n (J I 0 0) (J I 0 0)) 41) (Ob eJ 41);have av:GM w d K how one (ae 18 pos r m name (J (aS g) (O ks) kc)) kind n (((w.alloc (Ob (ae 18 pos r m name (J (aS g) (O ks) kc)) 48)).alloc (Ob (ak kind n (J I 0 0) (J I 0 0)) 41)).alloc (Ob eJ 41)) I 0 [] next fk fa:=⟨Kp.al V,N.below V,aN,ap,ar,au,World.ownsRow_nil _ _ _ _⟩;clear V ap ar au j N u;have aO:Hid ((kind=4->0<=n/\n<(O M.ds:Int))/\kind≠5/\kind≠6/\kind≠7):=aj;clear aj;go_enter Tryz.func84,Tryz.ntmps84
 go_wp2_with fail;go_loopg [11] (O ks) (λW X wr=>∃f:Nat,W=O ks - f/\X=vN f/\f<=nl/\GM w d K how one (ae 18 pos r m name (J (aS g) (O ks) kc)) kind n wr I 0 [] next fk fa)
 case atStart=>exact⟨0,Q,Q,zL _,av⟩
 case round=>
  clear av;obtain⟨f,aw,rfl,aP,a⟩:=hrel;have aQ:Hid (gk=O ks - f):=aw;clear aw;have x:=λo=>cell_of_row wr _ o _ 48 (0,0) a.nb;have y:E (U w)<E (U wr):=(gE a.nb).1;have z:=a.tb.cell;have A:=a.tb.fz;have B:=a.tb.lt;have C:=a.zb.cell;have D:=a.zb.fz;have F:=a.zb.lt;by_cases Y:f<nl
  ·obtain⟨bu,bv,bw,bx,bz,bA,bB,bC,aR,-,aU,bD,ax,aV,-⟩:=s.out.er f oM;obtain rfl:g=aR:=sU aU;obtain rfl:=aV Y;have G:(f:Int)<(O ks:Int):=oM;have bF:wr.cell? ⟨g,f*11,I⟩=some (vN 19):=(a.k.cell (p:=⟨g,f*11,I⟩) (by show g<_;omega) (by show g≠d;omega)).trans (ax 0 dC);have bG:g<E (U wr):=oM;clear ax;go_wp2_with fail;go_roundg (O ks - (f+1))
   case measure=>rw[aQ.out];omega
   case rel=>exact⟨f+1,Q,by go_num,Y,a⟩
  ·obtain rfl:nl=f:=oM;clear Y aP;have G:¬(nl:Int)<(O ks:Int):=oM;have aW:decide ((nl:Int)<(O ks:Int))=false:=sU G;go_wp2_with fail;go_loopg [12] e (λW X wr=>∃(b:Nat) (Z:OA) (aa:Nat) (k:List Int) (next fk fa:Int),W=e - b/\X=vN b/\b<=e/\O k=b/\GM w d K how one (ae 18 pos r m name (J (aS g) (O ks) kc)) kind n wr Z aa k next fk fa)
   case atStart=>exact⟨0,I,0,[],next,fk,fa,Q,Q,zL _,Q,a⟩
   case round=>
    clear a x y z A B C D F;obtain⟨b,Z,aa,k,next,fk,fa,ay,rfl,bH,aA,a⟩:=hrel;have aX:Hid (gk=e - b):=ay;have aB:Hid (O k=b):=aA;have aY:O k<=30000:=oM;clear ay aA;have x:=λo=>cell_of_row wr _ o _ 48 (0,0) a.nb;have y:E (U w)<E (U wr):=(gE a.nb).1;have z:=a.tb.cell;have A:=a.tb.fz;have B:=a.tb.lt;have C:=a.zb.cell;have D:=a.zb.fz;have F:=a.zb.lt;by_cases aZ:b<e
    ·have G:(b:Int)<(e:Int):=oM;obtain⟨bI,a0,bK,bL,a1,bM,bN,bO,a2,-,aC,bP,ab,-,-⟩:=s.out.er b oM;obtain rfl:g=a2:=sU aC;have bQ:wr.cell? ⟨g,b*11+1,I⟩=some (vN a0):=(a.k.cell (p:=⟨g,b*11+1,I⟩) (by show g<_;omega) (by show g≠d;omega)).trans (ab 1 dC);have bR:wr.cell? ⟨g,b*11+4,I⟩=some (.string a1):=(a.k.cell (p:=⟨g,b*11+4,I⟩) (by show g<_;omega) (by show g≠d;omega)).trans (ab 4 dC);have bS:g<E (U wr):=oM;have bT:(b:Int)<(O ks:Int):=oM;clear ab aC;go_wp2_with fail;go_region_law (first|(refine bg 38 (v:=J Z (O k) aa) (xv:=J (aS (E (U ac))) 1 1) rQ rQ rQ rQ (i.run aD aY _ Q) ?_;rintro bU bW ⟨a3,a4,rfl,ad,a5⟩;have bX:=ad.cell;have bY:=ad.fz;have bZ:=ad.lt)|(go_simp;refine(fE a.drew.c ((S.out.step ao.out a.k).step a.c (Kp.refl _ _ _).drew).lv S.out.lf _ _).mono ?_;rintro a6 ac ⟨aD,a7,a8,a9,rfl,a',ba,-⟩;have i:=a.drew.step ba a';have x:=λo=>cell_of_row ac _ o _ 48 (0,0) i.nb;have y:E (U w)<E (U ac):=(gE i.nb).1;have z:=i.tb.cell;have A:=i.tb.fz;have B:=i.tb.lt;have C:=i.zb.cell;have D:=i.zb.fz;have F:=i.zb.lt))
     all_goals
      go_wp2_with fail;go_roundg (e - (b+1))
      case measure=>rw[aX.out];omega
      case rel=>exact⟨b+1,a3,a4,k++[aD],a7,a8,a9,Q,by go_num,aZ,by simp[aB.out],sU a5⟩
    ·have G:¬(b:Int)<(e:Int):=oM;have aW:decide ((b:Int)<(e:Int))=false:=sU G;have b0:(nl:Int)<=(O ks:Int):=oM;have b1:(O ks:Int)<=(kc:Int):=oM;have bb:O k<=6100:=oH aB.out;have P:aq (λc=>c<B0) w wr:=λc H hl=>a.k.block c hl oM;have bc:Hid (∀af ag,O ks - nl=0->cU B0 wr (J af (O ks - nl) ag) (ks.drop nl)):=λaf ag bd=>(s.out.uO af ag bd).frame P oM;have bf:Hid (∀q∈ks.drop nl,isNode (λc=>c<B0) True h wr q/\cx (az q)):=λq j=>⟨isNode.frame P _ _ (s.out.node q (List.mem_of_mem_drop j)),s.out.ty q j⟩;have bh:Hid (((ks.drop nl).map (aG h wr)).sum=((ks.drop nl).map (aG h w)).sum):=congrArg List.sum (List.map_congr_left (λq j=>aT P _ _ (s.out.node q (List.mem_of_mem_drop j)) h));have aE:Hid (Cx wr d K M T (λc=>t c/\c<E (U w)) R L):=S.out.step ao.out a.k;clear P;go_wp2_with fail
     all_goals
      refine(fK @aL.out aE.out a.c aK (bc.out _ _ oM) bf.out).mono ?_;rintro a6 aF ⟨b2,b3,bi,b4,b5,b6,rfl,aH,aI,aJ,ah⟩;rw[bh.out] at ah;have l:=a.step aJ aI;have bj:O bi<=20000:=by rw[aH];simp;omega
      have bk:=ah.mono (S1:=λc=>t c/\c<E (U w)) (λc H=>H.1) (λc H=>⟨aE.out.s0 c H,oI H.2 a.k.size⟩);clear x y z A B C D F ah aH;have x:=λo=>cell_of_row aF _ o _ 48 (0,0) l.nb;have y:E (U w)<E (U aF):=(gE l.nb).1;have z:=l.tb.cell;have A:=l.tb.fz;have B:=l.tb.lt;have C:=l.zb.cell;have D:=l.zb.fz;have F:=l.zb.lt;go_wp2_with fail;go_light;exact iB aO.out aM a bb aI aJ bj bk _ Q Q
theorem mO {h:Nat} (i:bV h) {w:World} {p:Nat} {K:CK} {M:MK} {T:Nat} {s:Nat->Prop} {u t B0:Nat} {how next one fk fa:Int} (j:Cx w p K M T s u t) (k:bJ w p K how next one fk fa) (l:B0<=p) {pos r m:Int} {name:ByteArray} {ko:OA} {kl kc:Nat} (v:isNode (λb=>b<B0) True (h+1) w (ae 18 pos r m name (J ko kl kc)).toList) {kind n:Int} (o:(kind=4->0<=n/\n<(O M.ds:Int))/\kind≠5/\kind≠6/\kind≠7) (c:Nat) (a:Int) (hl:c<=6100):
 Calls Tryz.prog 84 #[.pointer (some ⟨p,0,I⟩),.agg (ae 18 pos r m name (J ko kl kc)),.agg (ak kind n (J I 0 0) (J I 0 0)),.int .i64 c,.int .i64 a] w (bE w p K how one s (O M.ds) (aG (h+1) w (ae 18 pos r m name (J ko kl kc)).toList*t)):=by
 obtain⟨q,nl,rfl,d,x⟩:=GN.of v;rw[x];have A:=d.tC;by_cases e:nl<O q
 ·obtain⟨_,_,_,_,_,_,_,_,g,_,rfl,_⟩:=d.er nl e;by_cases y:nl=0
  ·by_cases f:(O q:Int) - (nl:Int)=a
   ·exact tS i j k l d o c a hl e (bF f) (bF oM) (eT oM)
   ·exact rz i j k l d o c a hl e (bF oM) (bT f)
  ·by_cases z:nl=c
   ·by_cases f:(O q:Int) - (nl:Int)=a
    ·exact tR i j k l d o c a hl e oM (bF f) (bT oM) (eF oM) (bF oM)
    ·exact ry i j k l d o c a hl e (bT oM) (bF oM) (bT f)
   ·exact rA i j k l d o c a hl e (bT oM) (bT oM)
 ·by_cases y:nl=0
  ·by_cases f:(O q:Int) - (nl:Int)=a
   ·exact tQ i j k l d o c a hl e (bF f) (bF oM) (eT oM)
   ·exact rr i j k l d o c a hl e (bF oM) (bT f)
  ·by_cases z:nl=c
   ·by_cases f:(O q:Int) - (nl:Int)=a
    ·obtain⟨_,_,_,_,_,_,_,_,g,_,rfl,_⟩:=d.er 0 oM;exact tP i j k l d o c a hl e oM (bF f) (bT oM) (eF oM) (bF oM)
    ·exact rj i j k l d o c a hl e (bT oM) (bF oM) (bT f)
   ·exact ru i j k l d o c a hl e (bT oM) (bT oM)
section
variable{nd:Array Value} {K:CK} {fa fk how next one:Int} {cb:Nat} {S0:Nat->Prop} {w wr:World}
theorem gr {p:Func} {r:Nat} (t:p.results=#[.cell r 41]) {m:Act} (u:m.defers=[]) {W:World} {z:Nat} (v:m.tmps.getD r undef=.pointer (aS z)) {x y A B:Value} (C:bA W z #[x,y,A,B]) (M:E (U w)<=z) (N:cb<E (U w)) (F:bJ W cb K how next one fk fa) (G:Kp (E (U w)) cb w W) {D X H:Nat} {kind n:Int} {a:OA} {c d:Nat} {e:OA} {i j:Nat}
 (q:af (λb=>(S0 b\/E (U w)<=b)/\b≠z) (Gd D) H W (ak kind n (J a c d) (J e i j)).toList) (L:∀f,bW f W (ak kind n (J a c d) (J e i j)).toList<=X):
  bodyPost Tryz.prog p (bE w cb K how one S0 D X) .ret m (bQ W z (vN kind) (vN n) (J a c d) (J e i j)):=by
  have o:∀b,b≠z->(bQ W z (vN kind) (vN n) (J a c d) (J e i j)).heap[b]? =W.heap[b]? :=λb k=>(Below.heap_setCell _ ⟨z,3,I⟩ _ _ k).trans ((Below.heap_setCell _ ⟨z,2,I⟩ _ _ k).trans ((Below.heap_setCell _ ⟨z,1,I⟩ _ _ k).trans (Below.heap_setCell _ ⟨z,0,I⟩ _ _ k)));have s:aq (λb=>(S0 b\/E (U w)<=b)/\b≠z) W (bQ W z (vN kind) (vN n) (J a c d) (J e i j)):=λb l _=>o b l.2;exact bodyPost_ret (dX t v (bA.bQ C _ _ _ _)) u ⟨kind,n,a,c,d,e,i,j,next,fk,fa,Q,(o cb oM).trans F,G.trans ⟨Q,Q,Q,sQ,λb l _=>o b oM⟩,⟨H,af.weaken (λb l _=>l.1) _ _ (af.frame s sQ _ _ q)⟩,λf=>by rw[aL s sQ _ _ q];exact L f⟩
structure PM (w:World) (cb:Nat) (K:CK) (how one:Int) (nd:Array Value) (wr:World) (next fk fa:Int):Prop where
 k:Kp (E (U w)) cb w wr
 c:bJ wr cb K how next one fk fa
 eN:cb<E (U w)
 nb:wr.heap[E (U w)]? =some (Ob nd 48 (0,0))
 zb:bA wr (E (U w)+1) eJ
section
variable{w wr w':World} {cb:Nat} {K:CK} {how one:Int} {nd:Array Value} {next fk fa next' fk' fa':Int}
theorem PM.step (q:PM w cb K how one nd wr next fk fa) (a:Kp (E (U wr)) cb wr w') (b:bJ w' cb K how next' one fk' fa'):PM w cb K how one nd w' next' fk' fa':=by
 have c:=q.zb.lt;have d:=q.eN;exact⟨q.k.trans (a.mono q.k.size),b,q.eN,(a.block _ oM oM).trans q.nb,(a.block _ oM oM).trans q.zb⟩
theorem PM.below (q:PM w cb K how one nd wr next fk fa) (a:Below (E (U wr)) wr w'):PM w cb K how one nd w' next fk fa:=q.step (Kp.al a) (q.c.below a)
end
theorem PM.qL (q:PM w cb K how one nd wr next fk fa) {nb:Nat} (hl:E (U w)+1<nb) (c0 c1 c2 c3:Value):PM w cb K how one nd (cM wr nb c0 c1 c2 c3) next fk fa:=by
 have c:∀a,a≠nb->(cM wr nb c0 c1 c2 c3).heap[a]? =wr.heap[a]? :=λa b=>(Below.heap_setCell _ ⟨nb,3,I⟩ _ _ b).trans ((Below.heap_setCell _ ⟨nb,2,I⟩ _ _ b).trans ((Below.heap_setCell _ ⟨nb,1,I⟩ _ _ b).trans (Below.heap_setCell _ ⟨nb,0,I⟩ _ _ b)));have d:=q.eN;exact⟨Kp.bQ q.k oM _ _ _ _,(c _ oM).trans q.c,q.eN,(c _ oM).trans q.nb,(c _ oM).trans q.zb⟩
theorem fI {b:Nat} {a:World} (h:Below b a w) (n:Nat):Below b a (w.drewN n):=⟨h.os,h.tape,h.output,h.size,h.block⟩
structure FP (w:World) (cb:Nat) (K:CK) (how one:Int) (nd:Array Value) (D T:Nat) (wr:World) (next fk fa:Int) (nb:Nat) (r:Nm):Prop where
 pm:PM w cb K how one nd wr next fk fa
 n:bx wr nb (dF r)
 lt:E (U w)+1<nb
 q:NQ D T r
theorem vW {h:Nat} (a0:bV h) {M:MK} {T:Nat} {aB aa B0:Nat} (aC:Cx w cb K M T S0 aB aa) (au:bJ w cb K how next one fk fa) (aD:B0<=cb) {pos l m:Int} {name:ByteArray} {ko:OA} {kl kc:Nat} (X:isNode (λb=>b<B0) True (h+1) w (ae 18 pos l m name (J ko kl kc)).toList) (a1:NT name):
 Calls Tryz.prog 67 #[.pointer (some ⟨cb,0,I⟩),.agg (ae 18 pos l m name (J ko kl kc))] w (bE w cb K how one S0 (O M.ds) (aG (h+1) w (ae 18 pos l m name (J ko kl kc)).toList*aa)):=by
 have aE:Hid (bV h):=@a0;clear a0;obtain⟨ab,av⟩:∃ab,ab=aG (h+1) w (ae 18 pos l m name (J ko kl kc)).toList*aa:=⟨_,Q⟩
 have a2:aa<=ab:=by
  obtain⟨cd,-,-,-,-,bI,-⟩:=X.kids;rw[av,bI,Nat.add_mul,Nat.one_mul];omega
 have a3:1<=ab:=oH aC.z1;have o:Hid (Cx w cb K M T (λb=>S0 b/\b<E (U w)) aB aa/\bJ w cb K how next one fk fa/\isNode (λb=>b<B0) True (h+1) w (ae 18 pos l m name (J ko kl kc)).toList/\ab=aG (h+1) w (ae 18 pos l m name (J ko kl kc)).toList*aa/\NT name):=⟨aC.low,au,X,av,a1⟩;rw[<-av];have r:=au.lt;obtain⟨aF,a4,a5⟩:=dW w (Ob (ae 18 pos l m name (J ko kl kc)) 48) (Ob eJ 41);have N:PM w cb K how one (ae 18 pos l m name (J ko kl kc)) ((w.alloc (Ob (ae 18 pos l m name (J ko kl kc)) 48)).alloc (Ob eJ 41)) next fk fa:=⟨Kp.al aF,au.below aF,r,a4,a5⟩
 have ai:Hid (∀{d:World} {next fk fa:Int} (kind n:Int),PM w cb K how one (ae 18 pos l m name (J ko kl kc)) d next fk fa->kind≠4->kind≠6->kind≠7->∀P:Act,P.defers=[]->P.tmps.getD 4 undef=.pointer (aS (E (U w)+1))->bodyPost Tryz.prog Tryz.f67 (bE w cb K how one S0 (O M.ds) ab) .ret P (bQ d (E (U w)+1) (vN kind) (vN n) (J I 0 0) (J I 0 0))):=by
  intro d next fk fa kind n a bK bL bM P ac aH;obtain⟨aI,bN⟩:=dz (S:=λb=>(S0 b\/E (U w)<=b)/\b≠E (U w)+1) (D:=O M.ds) (w:=d) (kind:=kind) (n:=n) ⟨λt=>absurd t bK,bL,bM⟩;exact gr Tryz.results67 ac aH a.zb oM a.eN a.c a.k aI (λaJ=>lT (bN aJ) a3)
 have aK:Hid (∀{d:World} {next fk fa:Int},PM w cb K how one (ae 18 pos l m name (J ko kl kc)) d next fk fa->∀P:Act,P.defers=[]->P.tmps.getD 4 undef=.pointer (aS (E (U w)+1))->bodyPost Tryz.prog Tryz.f67 (bE w cb K how one S0 (O M.ds) ab) .ret P (bQ d (E (U w)+1) (vN K.sk) (vN K.sn) (J K.iJ K.iK K.iL) (J K.iM K.iN K.iO))):=by
  intro d next fk fa a P ac aH;have a6:=o.out.1.step o.out.2.1 a.k;exact gr Tryz.results67 ac aH a.zb oM a.eN a.c a.k (af.weaken (λb e _=>⟨.inl e.1,oH e.2⟩) _ _ a6.self) (λaJ=>lT (a6.sz aJ) a2)
 clear aF a4 a5 av a3 a2 aC au X a1 r;obtain⟨aL,bO⟩:∃aL,K.bZ=aL:=⟨_,Q⟩;obtain⟨y,a7⟩:∃y,K.bt=y:=⟨_,Q⟩;have ce:O y<=30000:=by rw[<-a7];exact o.out.1.tf
 go_enter Tryz.func67,Tryz.ntmps67
 have C:=λf=>cell_of_row _ _ f _ 48 (0,0) N.nb;have A:=(gE N.nb).1;have F:=N.zb.cell;have G:=N.zb.fz;have u:=N.zb.lt;have H:=N.c.cell;have L:=N.c.fz;have r:=N.c.lt;go_wp2_with fail;clear C A F G u H L r;go_loopg [5,6,18] (O y) (λbP _ _ bR wr=>∃z:Nat,bP=O y - z/\bR=vN z/\z<=O y/\PM w cb K how one (ae 18 pos l m name (J ko kl kc)) wr next fk fa)
 case atStart=>exact⟨0,Q,Q,zL _,N⟩
 case round=>
  clear N;obtain⟨z,a8,rfl,bS,a⟩:=hrel;have a9:Hid (gk=O y - z):=a8;clear a8;have C:=λf=>cell_of_row wr _ f _ 48 (0,0) a.nb;have A:E (U w)<E (U wr):=(gE a.nb).1;have F:=a.zb.cell;have G:=a.zb.fz;have u:=a.zb.lt;have H:=a.c.cell;have L:=a.c.fz;have r:=a.c.lt;by_cases aM:z<O y
  ·have aN:(z:Int)<(O y:Int):=oM;obtain⟨aO,a'⟩:∃aO,y[z]? =some aO:=⟨_,gG aM⟩;obtain⟨g,aP,cf,_,cg⟩:=mi (i:=z) (x:=aO) (o.out.1.step o.out.2.1 a.k).tv (by rw[a7];exact a');obtain rfl:aL=some ⟨g,0,I⟩:=by rw[<-bO];exact aP
   clear a' aP;go_wp2_with (go_at_call 83;refine(fm a.c _ _).mono ?_;rintro t q ⟨aw,ax,rfl,R,V,ay⟩;have c:=a.step V R;have C:=λf=>cell_of_row q _ f _ 48 (0,0) c.nb;have A:E (U w)<E (U q):=(gE c.nb).1;have F:=c.zb.cell;have G:=c.zb.fz;have u:=c.zb.lt;have H:=c.c.cell;have L:=c.c.fz;have r:=c.c.lt)
   all_goals first
    |(go_light;exact ai.out 5 _ c dC dC dC _ Q Q)
    |(go_light;exact ai.out 5 _ a dC dC dC _ Q Q)
    |skip
   go_roundg (O y - (z+1))
   case measure=>rw[a9.out];omega
   case rel=>exact⟨z+1,Q,by go_num,aM,a⟩
  ·have aN:¬(z:Int)<(O y:Int):=oM;have bU:decide ((z:Int)<(O y:Int))=false:=sU aN;clear a9
   cases ad:(K.bO&&name.toList==[83,101,108,102])
   ·go_upto_region 9 with fail
    go_cut [46] (λbW aQ=>bW=.bool false/\PM w cb K how one (ae 18 pos l m name (J ko kl kc)) aQ next fk fa)
    case first=>
     cases bX:K.bO
     ·go_wp2_with fail;go_meet;exact⟨Q,a⟩
     ·have aR:(name.toList==[83,101,108,102])=false:=by rw[bX] at ad;simpa using ad
      go_wp2_with fail;go_meet;exact⟨Q,a⟩
    case rest=>
     clear C A F G u H L r;clear a aK ad aM aN bU bS;obtain⟨rfl,a⟩:=hcut;have v:Hid (PI wc K.mb M T):=(o.out.1.step o.out.2.1 a.k).pi;have C:=λf=>cell_of_row wc _ f _ 48 (0,0) a.nb;have A:E (U w)<E (U wc):=(gE a.nb).1;have F:=a.zb.cell;have G:=a.zb.fz;have u:=a.zb.lt;have H:=a.c.cell;have L:=a.c.fz;have r:=a.c.lt;have ba:=λf=>cell_of_row wc _ f _ 66 (0,0) v.out.dV;have aU:K.mb<E (U wc):=(gE v.out.dV).1;go_upto_region 13 with fail
     go_cut [7,8,9] (λbY bZ b0 aQ=>∃(aV:Nat) (aW:ByteArray) (az:Int) (s:Nm),bY=.pointer (aS aV)/\bZ=.string aW/\b0=vN az/\FP w cb K how one (ae 18 pos l m name (J ko kl kc)) (O M.ds) T aQ next fk fa aV s)
     case first=>
      have aj:Hid (∀{d:World},Below (E (U wc)) wc d->Below (E (U wc)) wc d/\(Ce d cb (dy K how next one fk fa))/\(Ce d K.mb (jM M))/\(Ce d (E (U w)) (ae 18 pos l m name (J ko kl kc)))):=λ{d} e=>⟨e,λf=>cell_of_row d _ f _ 114 (0,0) ((e.block _ r).trans a.c),λf=>cell_of_row d _ f _ 66 (0,0) ((e.block _ aU).trans v.out.dV),λf=>cell_of_row d _ f _ 48 (0,0) ((e.block _ A).trans a.nb)⟩
      go_region_held3 (λd=>Below (E (U wc)) wc d/\(Ce d cb (dy K how next one fk fa))/\(Ce d K.mb (jM M))/\(Ce d (E (U w)) (ae 18 pos l m name (J ko kl kc))))
       (first|assumption|exact aj.out ((Below.refl _ _).drew)|exact aj.out ((al1 _ _).1.drew)|exact aj.out ah|exact aj.out (ah.alloc ah.size _)|exact aj.out ((((ah.setCell (p:=⟨E (U wc),0,I⟩) (lR _) _).setCell (p:=⟨E (U wc),1,I⟩) (lR _) _).setCell (p:=⟨E (U wc),2,I⟩) (lR _) _).setCell (p:=⟨E (U wc),3,I⟩) (lR _) _))
       (first
        |(go_at_call 69;have aX:=(‹Below (E (U wc)) wc _/\_›).1;refine(pA (D:=O M.ds) (T:=T) v.out.bj.1 v.out.bj.2.2 (v.out.cE.below aX) v.out.q _ _ _ _ _ _ (i:=K.mod) o.out.1.mod _ o.out.2.2.2.2).mono ?_;rintro t q ⟨bb,bc,bd,rfl,bf,bg⟩;have ah:=aX.trans (bg.mono aX.size);have bh:=a.below ah;have bi:=ah.size;first|(have X:bx q (E (U wc)) (dF gJ):=(bg.block (E (U wc)) sQ).trans (al1 wc _).2;have ch:=X.cell;have ci:=X.fz;have cj:=X.lt)|skip))
      all_goals
       go_wp2_with fail;go_meet
       first
        |exact⟨E (U wc),bc,bd,bb,Q,Q,Q,⟨bh.qL oM _ _ _ _,bx.bQ X _ _ _ _,oM,bf⟩⟩
        |exact⟨E (U q),bc,bd,bb,Q,Q,Q,⟨bh.below (al1 _ _).1,(al1 _ _).2,by have:E (U wc)<=E (U q):=bi;omega,bf⟩⟩
     case rest=>
      clear a C A F G u H L r ba aU v;obtain⟨aV,aW,az,s,rfl,rfl,rfl,a⟩:=hcut;have v:Hid (PI wc K.mb M T):=(o.out.1.step o.out.2.1 a.pm.k).pi;have C:=λf=>cell_of_row wc _ f _ 48 (0,0) a.pm.nb;have A:E (U w)<E (U wc):=(gE a.pm.nb).1;have F:=a.pm.zb.cell;have G:=a.pm.zb.fz;have u:=a.pm.zb.lt;have H:=a.pm.c.cell;have L:=a.pm.c.fz;have r:=a.pm.c.lt;have ba:=λf=>cell_of_row wc _ f _ 66 (0,0) v.out.dV;have aU:K.mb<E (U wc):=(gE v.out.dV).1;have ck:=a.n.cell;have cl:=a.n.fz;have cm:=a.n.lt
      have B:Hid (∀{d:World},Below (E (U wc)) wc d->Cx d cb K M T (λb=>S0 b/\b<E (U w)) aB aa/\bJ d cb K how next one fk fa/\isNode (λb=>b<B0) True (h+1) d (ae 18 pos l m name (J ko kl kc)).toList/\aG (h+1) d (ae 18 pos l m name (J ko kl kc)).toList=aG (h+1) w (ae 18 pos l m name (J ko kl kc)).toList):=by
       intro d e;have bj:aq (λb=>b<B0) w d:=λb cn b1=>(e.block b (oH a.pm.k.size)).trans (a.pm.k.block b b1 oM);exact⟨(o.out.1.step o.out.2.1 a.pm.k).step a.pm.c (Kp.al e),a.pm.c.below e,isNode.frame bj _ _ o.out.2.2.1,aT bj _ _ o.out.2.2.1 _⟩
      by_cases bk:az=0
      ·subst bk
       cases co:(aW.toList==[])
       ·go_wp2_with (go_at_call 83;refine(fm a.pm.c _ _).mono ?_;rintro t q ⟨aw,ax,rfl,R,V,ay⟩;have c:=a.pm.step V R;have C:=λf=>cell_of_row q _ f _ 48 (0,0) c.nb;have A:E (U w)<E (U q):=(gE c.nb).1;have F:=c.zb.cell;have G:=c.zb.fz;have u:=c.zb.lt;have H:=c.c.cell;have L:=c.c.fz;have r:=c.c.lt)
        go_light;exact ai.out 0 _ c dC dC dC _ Q Q
       ·by_cases Y:s.sort=0
        ·have b2:(s.sort !=0)=false:=bF Y;have b3:(s.sort==0)=true:=eT Y;have b4:=a.q.2.1 Y;have b5:=a.q.1;clear Y;obtain⟨W,cp⟩:∃W:Nat,s.n=(W:Int):=⟨s.n.toNat,oM⟩;obtain⟨ag,ac⟩:∃ag,M.ds[W]? =some ag:=⟨_,gG oM⟩;obtain⟨bl,aP,cq,aY⟩:=v.out.data ac;obtain⟨b6,b7,b8,b9⟩:=v.out.lg ag (mG ac);obtain⟨al,bm⟩:∃al:Nat,ag.ai=(al:Int):=⟨ag.ai.toNat,oM⟩;have cr:wc.cell? ⟨bl,W*10+6,I⟩=some (vN al):=by rw[<-bm];exact aY 6 dC
         have cs:wc.cell? ⟨bl,W*10+7,I⟩=some (vN ag.cF):=aY 7 dC;have b':(W:Int)<(O M.ds:Int):=oM;have ct:=v.out.bj;have ca:al<=6100:=oM;clear ac aY b4 b5 b6 b7 b8 b9 bm;go_wp2_with fail;go_quiet (fail)
         go_wp2_with fail;go_quiet (fail)
         go_wp2_with fail;have k:=λa=>fI (al1 wc (Ob (ak 4 (W:Int) (J I 0 0) (J I 0 0)) 41)).1 a;refine(mO @aE.out (B.out (k _)).1 (B.out (k _)).2.1 aD (B.out (k _)).2.2.1 (kind:=4) ⟨λ_=>⟨oM,b'⟩,dC,dC,dC⟩ al ag.cF ca).mono ?_;rintro t bn ⟨bo,bp,bq,br,bs,bt,bu,bv,bw,bz,bA,rfl,ao,ap,⟨bB,ar⟩,Z⟩;have j:=(a.pm.below (k _)).step ap ao;rw[(B.out (k _)).2.2.2,<-o.out.2.2.2.1] at Z;have bC:=j.zb.cell;have bD:=j.zb.fz;have bG:=j.zb.lt;go_wp2_with fail;go_light
         exact gr Tryz.results67 Q Q j.zb oM j.eN j.c j.k (af.weaken (λb e _=>by
          have bH:=u;have aZ:=(k 0).size;have aR:∀a,E (U ((wc.alloc (Ob (ak 4 (W:Int) (J I 0 0) (J I 0 0)) 41)).drewN a))=E (U (wc.alloc (Ob (ak 4 (W:Int) (J I 0 0) (J I 0 0)) 41))):=λ_=>rfl;rw[aR] at aZ e;rcases e with e|e
          ·exact⟨.inl e.1,oH e.2⟩
          ·exact⟨.inr oM,oM⟩) _ _ ar) Z
        ·have b2:(s.sort !=0)=true:=bT Y;have b3:(s.sort==0)=false:=eF Y;by_cases aA:s.sort=1
         ·have aI:(s.sort !=1)=false:=bF aA;clear Y aA;have k:Below (E (U wc)) wc (wc.alloc (Ob (ak 9 s.n (J I 0 0) (J I 0 0)) 41)):=(al1 wc _).1;have bi:=k.size;by_cases cc:s.n≥10
          ·go_wp2_with fail;refine(mO @aE.out (B.out k).1 (B.out k).2.1 aD (B.out k).2.2.1 (kind:=9) ⟨λt=>absurd t dC,dC,dC,dC⟩ 1 1 dC).mono ?_;rintro t bn ⟨bo,bp,bq,br,bs,bt,bu,bv,bw,bz,bA,rfl,ao,ap,⟨bB,ar⟩,Z⟩;have j:=(a.pm.below k).step ap ao;rw[(B.out k).2.2.2,<-o.out.2.2.2.1] at Z;have bC:=j.zb.cell;have bD:=j.zb.fz;have bG:=j.zb.lt;go_wp2_with fail;go_light
           exact gr Tryz.results67 Q Q j.zb oM j.eN j.c j.k (af.weaken (λb e _=>by
            have bH:=u;have aZ:=(k).size;rcases e with e|e
            ·exact⟨.inl e.1,oH e.2⟩
            ·exact⟨.inr oM,oM⟩) _ _ ar) Z
          ·have cu:decide (s.n≥10)=false:=sU cc;go_wp2_with fail;refine(mO @aE.out (B.out k).1 (B.out k).2.1 aD (B.out k).2.2.1 (kind:=9) ⟨λt=>absurd t dC,dC,dC,dC⟩ 0 1 dC).mono ?_;rintro t bn ⟨bo,bp,bq,br,bs,bt,bu,bv,bw,bz,bA,rfl,ao,ap,⟨bB,ar⟩,Z⟩;have j:=(a.pm.below k).step ap ao;rw[(B.out k).2.2.2,<-o.out.2.2.2.1] at Z;have bC:=j.zb.cell;have bD:=j.zb.fz;have bG:=j.zb.lt;go_wp2_with fail;go_light
           exact gr Tryz.results67 Q Q j.zb oM j.eN j.c j.k (af.weaken (λb e _=>by
            have bH:=u;have aZ:=(k).size;rcases e with e|e
            ·exact⟨.inl e.1,oH e.2⟩
            ·exact⟨.inr oM,oM⟩) _ _ ar) Z
         ·have aI:(s.sort !=1)=true:=bT aA;clear Y aA;go_wp2_with (go_at_call 83;refine(fm a.pm.c _ _).mono ?_;rintro t q ⟨aw,ax,rfl,R,V,ay⟩;have c:=a.pm.step V R;have C:=λf=>cell_of_row q _ f _ 48 (0,0) c.nb;have A:E (U w)<E (U q):=(gE c.nb).1;have F:=c.zb.cell;have G:=c.zb.fz;have u:=c.zb.lt;have H:=c.c.cell;have L:=c.c.fz;have r:=c.c.lt)
          go_light;exact ai.out 0 _ c dC dC dC _ Q Q
      ·have cv:(az !=0)=true:=bT bk;go_wp2_with (go_at_call 83;refine(fm a.pm.c _ _).mono ?_;rintro t q ⟨aw,ax,rfl,R,V,ay⟩;have c:=a.pm.step V R;have C:=λf=>cell_of_row q _ f _ 48 (0,0) c.nb;have A:E (U w)<E (U q):=(gE c.nb).1;have F:=c.zb.cell;have G:=c.zb.fz;have u:=c.zb.lt;have H:=c.c.cell;have L:=c.c.fz;have r:=c.c.lt)
       go_light;exact ai.out 0 _ c dC dC dC _ Q Q
   ·have cw:K.bO=true:=by simp at ad;exact ad.1
    have aR:(name.toList==[83,101,108,102])=true:=by simp at ad;simp[ad.2]
    go_wp2_with (go_at_call 83;refine(fm a.c _ _).mono ?_;rintro t q ⟨aw,ax,rfl,R,V,ay⟩;have c:=a.step V R;have C:=λf=>cell_of_row q _ f _ 48 (0,0) c.nb;have A:E (U w)<E (U q):=(gE c.nb).1;have F:=c.zb.cell;have G:=c.zb.fz;have u:=c.zb.lt;have H:=c.c.cell;have L:=c.c.fz;have r:=c.c.lt)
    all_goals first
     |(go_light;exact aK.out c _ Q Q)
     |(go_light;exact aK.out a _ Q Q)
end
section
variable{s:ByteArray} {i:Nat}
theorem re:∀(d:List (List UInt8)),d≠[]->(∀a∈d,a≠[]/\(58:UInt8)∉a)->∃b c,fL d=b::c/\b≠58
 |[],h,_=>absurd Q h
 |[a],_,hn=>by
  obtain⟨e,f⟩:=hn a (List.mem_cons_self ..)
  cases a with
  |nil=>exact absurd Q e
  |cons b c=>exact⟨b,c,Q,λj=>f (by rw[j];exact List.mem_cons_self ..)⟩
 |a::m::r,_,hn=>by
  obtain⟨e,f⟩:=hn a (List.mem_cons_self ..)
  cases a with
  |nil=>exact absurd Q e
  |cons b c=>exact⟨b,c++58::58::fL (m::r),Q,λj=>f (by rw[j];exact List.mem_cons_self ..)⟩
theorem nR:∀(f:List (List UInt8)),f≠[]->(∀a∈f,a≠[]/\(58:UInt8)∉a)->∀i:Nat,(fL f)[i]? =some 58->(fL f)[i+1]? =some 58->(fL f)[i+2]? ≠some 58
 |[],h,_=>absurd Q h
 |[a],_,hn=>λi c _=>absurd (mG c) (hn a (List.mem_cons_self ..)).2
 |a::m::r,_,hn=>λi c d e=>by
  have k:∀j∈m::r,j≠[]/\(58:UInt8)∉j:=λj p=>hn j (List.mem_cons_of_mem _ p);obtain⟨u,v,l,n⟩:=re (m::r) sQ k;have q:=(hn a (List.mem_cons_self ..)).2;have t:fL (a::m::r)=a++58::58::fL (m::r):=rfl;rw[t] at c d e;rcases Nat.lt_or_ge i (O a) with o|o
  ·rw[List.getElem?_append_left o] at c;exact q (mG c)
  ·obtain⟨b,rfl⟩:∃b,i=O a+b:=⟨i - (O a),oM⟩;rw[List.getElem?_append_right oM,show O a+b+1 - (O a)=b+1 by omega] at d;rw[List.getElem?_append_right oM,show O a+b+2 - (O a)=b+2 by omega] at e;rw[List.getElem?_append_right oM,show O a+b - (O a)=b by omega] at c
   cases b with
   |zero=>
    rw[l] at e;simp at e;exact n e
   |succ b=>
    cases b with
    |zero=>
     rw[l] at d;simp at d;exact n d
    |succ b=>
     simp only[List.getElem?_cons_succ] at c d e;exact nR (m::r) sQ k b c d e
theorem mP (h:i<s.size) (a:(((s[i]'h).toNat:Int)==58)=true):s.toList[i]? =some 58:=by
 have b:s.toList=s.data.toList:=ByteArray.toList_eq s
 have c:s.data.toList[i]? =some (s[i]'h):=by
  rw[Array.getElem?_toList,Array.getElem?_eq_getElem (by exact h)];rfl
 rw[b,c]
 have d:(s[i]'h).toNat=58:=by
  have:=eq_of_beq a;omega
 congr 1
 exact UInt8.toNat_inj.1 (by rw[d];rfl)
theorem cu.nt {k:Nat} (h:cu k s) (b:s.size<=20000):NT s:=by
 obtain⟨c,d,_,e,f⟩:=h;refine⟨b,λi ⟨o,j,l⟩ ⟨m,p,n⟩=>?_⟩;have a:=nR c d e i;rw[<-f] at a;exact a (mP _ j) (mP _ l) (mP m n)
theorem qi (h:s.toList[i]? =some 58):∃a:i<s.size,(((s[i]'a).toNat:Int)==58)=true:=by
 have b:s.toList=s.data.toList:=ByteArray.toList_eq s;rw[b,Array.getElem?_toList] at h;obtain⟨a,c⟩:=gE h;refine⟨a,?_⟩;have d:s[i]'a=58:=c;rw[d];rfl
theorem cu.two (h:cu 2 s) (f:¬cu 1 s):∃i,rF s i:=by
 obtain⟨j,c,d,b,a⟩:=h;match j,c,d,b,a with
 |[],c,_,_,_=>exact absurd Q c
 |[n],_,_,b,a=>exact absurd ⟨[n],sQ,sQ,b,a⟩ f
 |[n,m],_,_,b,a=>
  have e:s.toList=n++58::58::m:=a;have k:s.toList[O n]? =some 58:=by rw[e,List.getElem?_append_right oM];simp
  have l:s.toList[O n+1]? =some 58:=by rw[e,List.getElem?_append_right oM];simp
  obtain⟨_,o⟩:=qi k;obtain⟨p,q⟩:=qi l;exact⟨O n,p,o,q⟩
 |_::_::_::_,_,d,_,_=>simp at d
end
section
variable{nd:Array Value} {K:CK} {fa fa2 fk fk2 how kind n next next2 one r:Int} {D H X Y cb la tb:Nat} {S0:Nat->Prop} {W w w' w2 wc:World}
theorem bE.mono (b:X<=Y) {e:Ending} (h:bE w cb K how one S0 D X e w'):bE w cb K how one S0 D Y e w':=by
 obtain⟨c,n,d,f,i,j,e,a,g,k,l,m,o,p,q,s⟩:=h;exact⟨c,n,d,f,i,j,e,a,g,k,l,m,o,p,q,λa=>lT (s a) b⟩
theorem gW {l:Func} {r:Nat} (m:l.results=#[.cell r 41]) {k:Act} (o:k.defers=[]) {z:Nat} (p:k.tmps.getD r undef=.pointer (aS z)) {a:OA} {c d:Nat} {e:OA} {i j:Nat} (q:bA W z (ak kind n (J a c d) (J e i j))) (s:bJ W cb K how next one fk fa) (t:Kp (E (U w)) cb w W)
 (u:af (λb=>S0 b\/E (U w)<=b) (Gd D) H W (ak kind n (J a c d) (J e i j)).toList) (v:∀f,bW f W (ak kind n (J a c d) (J e i j)).toList<=X):
  bodyPost Tryz.prog l (bE w cb K how one S0 D X) .ret k W:=
  bodyPost_ret (dX m p q) o ⟨kind,n,a,c,d,e,i,j,next,fk,fa,Q,s,t,⟨H,u⟩,v⟩
structure TM (w:World) (cb:Nat) (K:CK) (how one:Int) (nd:Array Value) (wr:World) (next fk fa:Int) (tb:Nat) (kind n:Int) (la:Nat) (r:Int):Prop where
 pm:PM w cb K how one nd wr next fk fa
 t:bA wr tb (ak kind n (J (aS la) 1 1) (J I 0 0))
 l:wr.heap[la]? =some (Ob #[vN r] 3 (0,0))
 wV:E (U w)+1<tb
 xG:E (U w)+1<la
 ne:tb≠la
section
variable{w wr w':World} {cb:Nat} {K:CK} {how one:Int} {nd:Array Value} {next fk fa next' fk' fa':Int} {tb:Nat} {kind n:Int} {la:Nat} {r:Int}
theorem TM.yW (q:TM w cb K how one nd wr next fk fa tb kind n la r):la<E (U wr):=(gE q.l).1
theorem TM.step (q:TM w cb K how one nd wr next fk fa tb kind n la r) (a:Kp (E (U wr)) cb wr w') (b:bJ w' cb K how next' one fk' fa'):TM w cb K how one nd w' next' fk' fa' tb kind n la r:=by
 have i:=q.pm.eN;have c:=q.wV;have d:=q.xG;have e:=q.t.lt;have f:=q.yW;exact⟨q.pm.step a b,(a.block _ e oM).trans q.t,(a.block _ f oM).trans q.l,c,d,q.ne⟩
theorem TM.kE (q:TM w cb K how one nd wr next fk fa tb kind n la r) (x:Int):TM w cb K x one nd (wr.setCell ⟨cb,9,I⟩ (vN x)) next fk fa tb kind n la r:=by
 have c:=q.pm.eN;have d:=q.wV;have e:=q.xG;have a:∀b,b≠cb->(wr.setCell ⟨cb,9,I⟩ (vN x)).heap[b]? =wr.heap[b]? :=λb f=>Below.heap_setCell _ ⟨cb,9,I⟩ _ _ f;exact⟨⟨Kp.setCell (p:=⟨cb,9,I⟩) q.pm.k (.inr Q) _,q.pm.c.qM x,c,(a _ oM).trans q.pm.nb,(a _ oM).trans q.pm.zb⟩,(a _ oM).trans q.t,(a _ oM).trans q.l,d,e,q.ne⟩
theorem PM.uK (q:PM w cb K how one nd wr next fk fa) {nb:Nat} (hl:E (U w)+1<nb) (c0 c1 c2 c3:Value):PM w cb K how one nd (bQ wr nb c0 c1 c2 c3) next fk fa:=q.qL hl c0 c1 c2 c3
theorem TM.o1 (q:PM w cb K how one nd wr next fk fa) (kind n r:Int):TM w cb K how one nd ((wr.alloc (Ob #[vN r] 3)).alloc (Ob (ak kind n (J (aS (E (U wr))) 1 1) (J I 0 0)) 41)) next fk fa (E (U wr)+1) kind n (E (U wr)) r:=by
 obtain⟨a,b,c⟩:=dW wr (Ob #[vN r] 3) (Ob (ak kind n (J (aS (E (U wr))) 1 1) (J I 0 0)) 41);have:=q.zb.lt;exact⟨q.below a,c,b,oM,oM,oM⟩
theorem TM.o2 (q:PM w cb K how one nd wr next fk fa) (kind n r:Int):TM w cb K how one nd ((wr.alloc (Ob (ak kind n (J (aS (E (U wr)+1)) 1 1) (J I 0 0)) 41)).alloc (Ob #[vN r] 3)) next fk fa (E (U wr)) kind n (E (U wr)+1) r:=by
 obtain⟨a,b,c⟩:=dW wr (Ob (ak kind n (J (aS (E (U wr)+1)) 1 1) (J I 0 0)) 41) (Ob #[vN r] 3);have:=q.zb.lt;exact⟨q.below a,b,c,oM,oM,oM⟩
theorem TM.o3 (q:PM w cb K how one nd wr next fk fa) (a:bA wr tb eJ) (hl:E (U w)+1<tb) (kind n r:Int):TM w cb K how one nd ((bQ wr tb (vN kind) (vN n) (J (aS (E (U wr))) 1 1) (J I 0 0)).alloc (Ob #[vN r] 3)) next fk fa tb kind n (E (U wr)) r:=by
 have c:=q.uK hl (vN kind) (vN n) (J (aS (E (U wr))) 1 1) (J I 0 0);have f:=a.lt;have i:=q.zb.lt;have d:E (U (bQ wr tb (vN kind) (vN n) (J (aS (E (U wr))) 1 1) (J I 0 0)))=E (U wr):=sQ;obtain⟨e,b⟩:=al1 (bQ wr tb (vN kind) (vN n) (J (aS (E (U wr))) 1 1) (J I 0 0)) (Ob #[vN r] 3);rw[d] at b;exact⟨c.below e,(bA.bQ a _ _ _ _).alloc _,b,hl,oM,oM⟩
end
theorem sB {S:Nat->Prop} (h:W.heap[la]? =some (Ob #[vN r] 3 (0,0))) (hS:S la):ro W S 1 (J (aS la) 1 1) [r].length (aN [r]):=
 ⟨some ⟨la,0,I⟩,1,Q,Q,λ_=>⟨la,Q,hS,(gE h).1,λa b=>by
  rw[cell_of_row W la a _ 3 (0,0) h];obtain rfl:a=0:=by simp at b;omega
  rfl⟩⟩
theorem xZ (q:TM w cb K how one nd wc next fk fa tb kind 0 la r) (ar:kind=6\/kind=7) (B:Kp (E (U wc)) cb wc w2) (C:bJ w2 cb K how next2 one fk2 fa2) {c a:Int} {d:OA} {e i:Nat} {j:OA} {k l:Nat}
 (F:af (λb=>(S0 b/\b<E (U w))\/E (U wc)<=b) (Gd D) H w2 (ak c a (J d e i) (J j k l)).toList) (T:∀f,bW f w2 (ak c a (J d e i) (J j k l)).toList<=Y) (V:1+Y<=X) (x:Act) (Z:x.defers=[]) (aa:x.tmps.getD 4 undef=.pointer (some ⟨E (U w)+1,0,I⟩)):
  bodyPost Tryz.prog Tryz.f44 (bE w cb K how one S0 D X) .ret x ((bQ (w2.setCell ⟨tb,3,I⟩ (J (aS (E (U w2))) 1 1)) (E (U w)+1) (vN kind) (vN 0) (J (aS la) 1 1) (J (aS (E (U w2))) 1 1)).alloc (Ob (ak c a (J d e i) (J j k l)) 41)):=by
  have y:=q.step B C;have au:=q.pm.eN;have av:=q.wV;have aw:=q.xG;have ax:=q.ne;have ay:=q.t.lt;have az:=q.yW;have aA:=B.size;have aB:=q.pm.k.size;obtain⟨m,t⟩:∃m,m=bQ (w2.setCell ⟨tb,3,I⟩ (J (aS (E (U w2))) 1 1)) (E (U w)+1) (vN kind) (vN 0) (J (aS la) 1 1) (J (aS (E (U w2))) 1 1):=⟨_,Q⟩;have ab:E (U m)=E (U w2):=by rw[t];simp
  have ac:bA m (E (U w)+1) (ak kind 0 (J (aS la) 1 1) (J (aS (E (U w2))) 1 1)):=by
   rw[t];exact bA.bQ (y.pm.zb.other (p:=⟨tb,3,I⟩) (by show E (U w)+1≠tb;omega) _) _ _ _ _
  have ad:∀b,b≠tb->b≠E (U w)+1->m.heap[b]? =w2.heap[b]? :=λb z a=>by
   rw[t];exact(Below.heap_setCell _ ⟨E (U w)+1,3,I⟩ _ _ a).trans ((Below.heap_setCell _ ⟨E (U w)+1,2,I⟩ _ _ a).trans ((Below.heap_setCell _ ⟨E (U w)+1,1,I⟩ _ _ a).trans ((Below.heap_setCell _ ⟨E (U w)+1,0,I⟩ _ _ a).trans (Below.heap_setCell _ ⟨tb,3,I⟩ _ _ z))))
  have ae:Kp (E (U w)) cb w m:=by
   rw[t];exact Kp.bQ (Kp.setCell (p:=⟨tb,3,I⟩) y.pm.k (.inl (by show E (U w)<=tb;omega)) _) (Nat.le_add_right _ _) _ _ _ _
  rw[<-t];clear t;obtain⟨W,L⟩:∃W,W=m.alloc (Ob (ak c a (J d e i) (J j k l)) 41):=⟨_,Q⟩;obtain⟨u,v⟩:=al1 m (Ob (ak c a (J d e i) (J j k l)) 41);rw[<-L] at u v⊢;rw[ab] at u v;have A:∀b,b<E (U w2)->b≠tb->b≠E (U w)+1->W.heap[b]? =w2.heap[b]? :=λb ag z a=>(u.block b ag).trans (ad b z a);have M:E (U w2)<=E (U W):=oH u.size;have N:aq (λb=>((S0 b/\b<E (U w))\/E (U wc)<=b)) w2 W:=λb o ah=>A b ah (by rcases o with o|o<;>omega) (by rcases o with o|o<;>omega);have ai:af (λb=>S0 b\/E (U w)<=b) (Gd D) H W (ak c a (J d e i) (J j k l)).toList:=af.weaken (λb o _=>o.imp (λs=>s.1) (λs=>by omega)) _ _ (af.frame N M _ _ F)
  have P:∀s∈[(ak c a (J d e i) (J j k l)).toList],af (λb=>S0 b\/E (U w)<=b) (Gd D) H W s:=by
   intro s aj;rw[List.mem_singleton.1 aj];exact ai
  have al:W.heap[la]? =some (Ob #[vN r] 3 (0,0)):=(A la oM oM oM).trans y.l
  have R:ro W (λb=>S0 b\/E (U w)<=b) 4 (J (aS (E (U w2))) 1 1) [(ak c a (J d e i) (J j k l)).toList].length [(ak c a (J d e i) (J j k l)).toList].flatten:=
   ⟨some ⟨E (U w2),0,I⟩,1,Q,Q,λ_=>⟨E (U w2),Q,.inr oM,(gE v).1,λao aC=>by
    rw[cell_of_row W _ ao _ 41 (0,0) v];simp⟩⟩
  refine gW Tryz.results44 Z aa (ac.alloc _ |> λs=>by rw[L];exact s) (next:=next2) (fk:=fk2) (fa:=fa2) ?_ (ae.trans (Kp.al ?_)) (H:=H+1) ?_ (λf=>?_)
  ·exact(A cb oM oM oM).trans C
  ·exact u.mono oM
  ·exact kR (sB al (.inr oM)) R sQ sQ ⟨sQ,λap=>by omega,λ_=>⟨Q,Q⟩,λap=>by omega⟩ P
  ·cases f with
   |zero=>exact zL _
   |succ f=>
    rw[gP (S:=λb=>S0 b\/E (U w)<=b) (G:=Gd D) (h:=H) R P];have:=T f;rw[<-aL N M _ _ F] at this;exact lT (Nat.add_le_add_left (show bW f W _+0<=Y from this) 1) V
theorem xY (q:TM w cb K 4 one nd wc next fk fa tb 8 n la r) (y:Kp (E (U wc)) cb wc w2) (z:bJ w2 cb K 4 next2 one fk2 fa2) {e:OA} {f:Nat} {vs:VV} (ac:O vs<=20000)
 (l:lj wc cb (λb=>S0 b/\b<E (U w)) D w2 (J e (O vs) f) vs Y) (ad:1+Y<=X) (o:Act) (L:o.defers=[]) (M:o.tmps.getD 4 undef=.pointer (aS (E (U w)+1))):
  bodyPost Tryz.prog Tryz.f44 (bE w cb K how one S0 D X) .ret o (bQ ((w2.setCell ⟨tb,3,I⟩ (J e (O vs) f)).setCell ⟨cb,9,I⟩ (vN how)) (E (U w)+1) (vN 8) (vN n) (J (aS la) 1 1) (J e (O vs) f)):=by
  have s:=q.step y z;have ae:=q.pm.eN;have ag:=q.wV;have ah:=q.xG;have ai:=q.ne;have aj:=q.t.lt;have al:=q.yW;have ao:=y.size;have ap:=q.pm.k.size;obtain⟨W,i⟩:∃W,W=bQ ((w2.setCell ⟨tb,3,I⟩ (J e (O vs) f)).setCell ⟨cb,9,I⟩ (vN how)) (E (U w)+1) (vN 8) (vN n) (J (aS la) 1 1) (J e (O vs) f):=⟨_,Q⟩;have ar:E (U W)=E (U w2):=by rw[i];simp
  have N:bA W (E (U w)+1) (ak 8 n (J (aS la) 1 1) (J e (O vs) f)):=by
   rw[i];exact bA.bQ ((s.pm.zb.other (p:=⟨tb,3,I⟩) (by show E (U w)+1≠tb;omega) _).other (p:=⟨cb,9,I⟩) (by show E (U w)+1≠cb;omega) _) _ _ _ _
  have t:∀b,b≠E (U w)+1->W.heap[b]? =((w2.setCell ⟨tb,3,I⟩ (J e (O vs) f)).setCell ⟨cb,9,I⟩ (vN how)).heap[b]? :=λb j=>by
   rw[i];exact(Below.heap_setCell _ ⟨E (U w)+1,3,I⟩ _ _ j).trans ((Below.heap_setCell _ ⟨E (U w)+1,2,I⟩ _ _ j).trans ((Below.heap_setCell _ ⟨E (U w)+1,1,I⟩ _ _ j).trans (Below.heap_setCell _ ⟨E (U w)+1,0,I⟩ _ _ j)))
  have u:∀b,b≠tb->b≠E (U w)+1->b≠cb->W.heap[b]? =w2.heap[b]? :=λb P j R=>(t b j).trans ((Below.heap_setCell _ ⟨cb,9,I⟩ _ _ R).trans (Below.heap_setCell _ ⟨tb,3,I⟩ _ _ P));have T:bJ W cb K how next2 one fk2 fa2:=(t cb oM).trans ((z.other (p:=⟨tb,3,I⟩) (by show cb≠tb;omega) _).qM how)
  have V:Kp (E (U w)) cb w W:=by
   rw[i];exact Kp.bQ (Kp.setCell (p:=⟨cb,9,I⟩) (Kp.setCell (p:=⟨tb,3,I⟩) s.pm.k (.inl (by show E (U w)<=tb;omega)) _) (.inr Q) _) (Nat.le_add_right _ _) _ _ _ _
  rw[<-i];clear i t;obtain⟨H,Z⟩:=l.all;have A:aq (λb=>((S0 b/\b<E (U w)/\b≠cb)\/E (U wc)<=b)) w2 W:=λb a aa=>u b (by rcases a with a|a<;>omega) (by rcases a with a|a<;>omega) (by rcases a with a|a<;>omega);have v:E (U w2)<=E (U W):=oM;have B:∀c∈vs,af (λb=>((S0 b/\b<E (U w)/\b≠cb)\/E (U wc)<=b)) (Gd D) H w2 c:=λc m=>af.weaken (λb a _=>a.1.imp (λx=>⟨x.1,x.2,(l.s0 b x).1⟩) id) _ _ (Z c m);have C:∀c∈vs,af (λb=>S0 b\/E (U w)<=b) (Gd D) H W c:=λc m=>af.weaken (λb a _=>a.imp (λc=>c.1) (λc=>by omega)) _ _ (af.frame A v _ _ (B c m));have ab:W.heap[la]? =some (Ob #[vN r] 3 (0,0)):=(u la oM oM oM).trans s.l
  have F:ro W (λb=>S0 b\/E (U w)<=b) 4 (J e (O vs) f) (O vs) vs.flatten:=
   ((ro.bH l.row (λb a=>(l.row.lt b a).1):ro w2 (λb=>E (U wc)<=b) 4 _ _ _).frame (λb a aa=>u b oM oM oM) v).weaken (λb a _=>.inr oM)
  refine gW Tryz.results44 L M N T V (H:=H+1) ?_ (λk=>?_)
  ·exact kR (sB ab (.inr oM)) F sQ oM ⟨sQ,λd=>absurd d dC,λd=>by rcases d with d|d<;>exact absurd d dC,λd=>absurd d dC⟩ C
  ·cases k with
   |zero=>exact zL _
   |succ k=>
    rw[gP (S:=λb=>S0 b\/E (U w)<=b) (G:=Gd D) (h:=H) F C];have:=l.sz k;have d:vs.map (bW k W)=vs.map (bW k w2):=List.map_congr_left (λc m=>aL A v _ _ (B c m) k);rw[d];omega
end
end Go.Proofs.YtdghkacbpebcoaaGreat
