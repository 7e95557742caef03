import Derived.Test.YtcnnibahjmekdaaGreatS29
import Derived.Test.YtcnnibahjmekdaaGreatS31
import Derived.Test.YtcnnibahjmekdaaGreatS32
import Derived.Test.YtcnnibahjmekdaaGreatS33
namespace Go.Proofs.YtcnnibahjmekdaaGreat
open Go.RowKit
open Value renaming slice→J
open List renaming length→O
open Option renaming none→I
open World renaming heap→U
open _root_.Array renaming size→E
open Obj renaming cells→Ob
set_option linter.all false
set_option maxRecDepth 100000
set_option maxHeartbeats 0
theorem mR {h:Nat} (i:bZ h) {w:World} {p:Nat} {K:CK} {M:MK} {T:Nat} {s:Nat->Prop} {u t B0:Nat} {how next one fk fa:Int} (j:Cx w p K M T s u t) (k:bP w p K how next one fk fa) (l:B0<=p) {pos r m:Int} {name:ByteArray} {ko:OA} {kl kc:Nat} (v:isNode (λb=>b<B0) True (h+1) w (ae 18 pos r m name (J ko kl kc)).toList) {kind n:Int} (o:(kind=4->0<=n/\n<(O M.ds:Int))/\kind≠5/\kind≠6/\kind≠7) (c:Nat) (a:Int) (hl:c<=6100):
 Calls Tryz.prog 90 #[.pointer (some ⟨p,0,I⟩),.agg (ae 18 pos r m name (J ko kl kc)),.agg (ai kind n (J I 0 0) (J I 0 0)),.int .i64 c,.int .i64 a] w (bS w p K how one s (O M.ds) (aG (h+1) w (ae 18 pos r m name (J ko kl kc)).toList*t)):=by
 obtain⟨q,nl,rfl,d,x⟩:=GN.of v;rw[x];have A:=d.tK;by_cases e:nl<O q
 ·obtain⟨_,_,_,_,_,_,_,_,g,_,rfl,_⟩:=d.eH nl e;by_cases y:nl=0
  ·by_cases f:(O q:Int) - (nl:Int)=a
   ·exact ub i j k l d o c a hl e (bF f) (bF oM) (eT oM)
   ·exact rL i j k l d o c a hl e (bF oM) (bT f)
  ·by_cases z:nl=c
   ·by_cases f:(O q:Int) - (nl:Int)=a
    ·exact ua i j k l d o c a hl e oM (bF f) (bT oM) (eF oM) (bF oM)
    ·exact rK i j k l d o c a hl e (bT oM) (bF oM) (bT f)
   ·exact rM i j k l d o c a hl e (bT oM) (bT oM)
 ·by_cases y:nl=0
  ·by_cases f:(O q:Int) - (nl:Int)=a
   ·exact tZ i j k l d o c a hl e (bF f) (bF oM) (eT oM)
   ·exact rI i j k l d o c a hl e (bF oM) (bT f)
  ·by_cases z:nl=c
   ·by_cases f:(O q:Int) - (nl:Int)=a
    ·obtain⟨_,_,_,_,_,_,_,_,g,_,rfl,_⟩:=d.eH 0 oM;exact tY i j k l d o c a hl e oM (bF f) (bT oM) (eF oM) (bF oM)
    ·exact rH i j k l d o c a hl e (bT oM) (bF oM) (bT f)
   ·exact rJ i j k l d o c a hl e (bT oM) (bT oM)
section
variable{nd:Array Value} {K:CK} {fa fk how next one:Int} {cb:Nat} {S0:Nat->Prop} {w wr:World}
theorem gr {p:Func} {r:Nat} (t:p.results=#[.cell r 39]) {m:Act} (u:m.defers=[]) {W:World} {z:Nat} (v:m.tmps.getD r undef=.pointer (aS z)) {x y A B:Value} (C:aN W z #[x,y,A,B]) (M:E (U w)<=z) (N:cb<E (U w)) (F:bP W cb K how next one fk fa) (G:Kp (E (U w)) cb w W) {D X H:Nat} {kind n:Int} {a:OA} {c d:Nat} {e:OA} {i j:Nat}
 (q:af (λb=>(S0 b\/E (U w)<=b)/\b≠z) (Gd D) H W (ai kind n (J a c d) (J e i j)).toList) (L:∀f,aU f W (ai kind n (J a c d) (J e i j)).toList<=X):
  bodyPost Tryz.prog p (bS w cb K how one S0 D X) .ret m (bQ W z (vN kind) (vN n) (J a c d) (J e i j)):=by
  have o:∀b,b≠z->(bQ W z (vN kind) (vN n) (J a c d) (J e i j)).heap[b]? =W.heap[b]? :=λb k=>(Below.heap_setCell _ ⟨z,3,I⟩ _ _ k).trans ((Below.heap_setCell _ ⟨z,2,I⟩ _ _ k).trans ((Below.heap_setCell _ ⟨z,1,I⟩ _ _ k).trans (Below.heap_setCell _ ⟨z,0,I⟩ _ _ k)));have s:al (λb=>(S0 b\/E (U w)<=b)/\b≠z) W (bQ W z (vN kind) (vN n) (J a c d) (J e i j)):=λb l _=>o b l.2;exact bodyPost_ret (dQ t v (aN.bQ C _ _ _ _)) u ⟨kind,n,a,c,d,e,i,j,next,fk,fa,Q,(o cb oM).trans F,G.trans ⟨Q,Q,Q,sQ,λb l _=>o b oM⟩,⟨H,af.weaken (λb l _=>l.1) _ _ (af.frame s sQ _ _ q)⟩,λf=>by rw[aJ s sQ _ _ q];exact L f⟩
structure PM (w:World) (cb:Nat) (K:CK) (how one:Int) (nd:Array Value) (wr:World) (next fk fa:Int):Prop where
 k:Kp (E (U w)) cb w wr
 c:bP wr cb K how next one fk fa
 eS:cb<E (U w)
 nb:wr.heap[E (U w)]? =some (Ob nd 46 (0,0))
 zb:aN wr (E (U w)+1) dF
section
variable{w wr w':World} {cb:Nat} {K:CK} {how one:Int} {nd:Array Value} {next fk fa next' fk' fa':Int}
theorem PM.step (q:PM w cb K how one nd wr next fk fa) (a:Kp (E (U wr)) cb wr w') (b:bP w' cb K how next' one fk' fa'):PM w cb K how one nd w' next' fk' fa':=by
 have c:=q.zb.lt;have d:=q.eS;exact⟨q.k.trans (a.mono q.k.size),b,q.eS,(a.block _ oM oM).trans q.nb,(a.block _ oM oM).trans q.zb⟩
theorem PM.below (q:PM w cb K how one nd wr next fk fa) (a:Below (E (U wr)) wr w'):PM w cb K how one nd w' next fk fa:=q.step (Kp.aq a) (q.c.below a)
end
theorem PM.qX (q:PM w cb K how one nd wr next fk fa) {nb:Nat} (hl:E (U w)+1<nb) (c0 c1 c2 c3:Value):PM w cb K how one nd (cQ wr nb c0 c1 c2 c3) next fk fa:=by
 have c:∀a,a≠nb->(cQ wr nb c0 c1 c2 c3).heap[a]? =wr.heap[a]? :=λa b=>(Below.heap_setCell _ ⟨nb,3,I⟩ _ _ b).trans ((Below.heap_setCell _ ⟨nb,2,I⟩ _ _ b).trans ((Below.heap_setCell _ ⟨nb,1,I⟩ _ _ b).trans (Below.heap_setCell _ ⟨nb,0,I⟩ _ _ b)));have d:=q.eS;exact⟨Kp.bQ q.k oM _ _ _ _,(c _ oM).trans q.c,q.eS,(c _ oM).trans q.nb,(c _ oM).trans q.zb⟩
theorem fI {b:Nat} {a:World} (h:Below b a w) (n:Nat):Below b a (w.drewN n):=⟨h.os,h.tape,h.output,h.size,h.block⟩
structure FP (w:World) (cb:Nat) (K:CK) (how one:Int) (nd:Array Value) (D T:Nat) (wr:World) (next fk fa:Int) (nb:Nat) (r:Nm):Prop where
 pm:PM w cb K how one nd wr next fk fa
 n:bw wr nb (dR r)
 lt:E (U w)+1<nb
 q:NQ D T r
theorem wJ {h:Nat} (a0:bZ h) {M:MK} {T:Nat} {aB aa B0:Nat} (aC:Cx w cb K M T S0 aB aa) (au:bP w cb K how next one fk fa) (aD:B0<=cb) {pos l m:Int} {name:ByteArray} {ko:OA} {kl kc:Nat} (X:isNode (λb=>b<B0) True (h+1) w (ae 18 pos l m name (J ko kl kc)).toList) (a1:NT name):
 Calls Tryz.prog 73 #[.pointer (some ⟨cb,0,I⟩),.agg (ae 18 pos l m name (J ko kl kc))] w (bS w cb K how one S0 (O M.ds) (aG (h+1) w (ae 18 pos l m name (J ko kl kc)).toList*aa)):=by
 have aE:Hid (bZ h):=@a0;clear a0;obtain⟨ab,av⟩:∃ab,ab=aG (h+1) w (ae 18 pos l m name (J ko kl kc)).toList*aa:=⟨_,Q⟩
 have a2:aa<=ab:=by
  obtain⟨cd,-,-,-,-,bH,-⟩:=X.kids;rw[av,bH,Nat.add_mul,Nat.one_mul];omega
 have a3:1<=ab:=oH aC.z1;have o:Hid (Cx w cb K M T (λb=>S0 b/\b<E (U w)) aB aa/\bP w cb K how next one fk fa/\isNode (λb=>b<B0) True (h+1) w (ae 18 pos l m name (J ko kl kc)).toList/\ab=aG (h+1) w (ae 18 pos l m name (J ko kl kc)).toList*aa/\NT name):=⟨aC.low,au,X,av,a1⟩;rw[<-av];have r:=au.lt;obtain⟨aF,a4,a5⟩:=eI w (Ob (ae 18 pos l m name (J ko kl kc)) 46) (Ob dF 39);have N:PM w cb K how one (ae 18 pos l m name (J ko kl kc)) ((w.alloc (Ob (ae 18 pos l m name (J ko kl kc)) 46)).alloc (Ob dF 39)) next fk fa:=⟨Kp.aq aF,au.below aF,r,a4,a5⟩
 have aj:Hid (∀{d:World} {next fk fa:Int} (kind n:Int),PM w cb K how one (ae 18 pos l m name (J ko kl kc)) d next fk fa->kind≠4->kind≠6->kind≠7->∀P:Act,P.defers=[]->P.tmps.getD 4 undef=.pointer (aS (E (U w)+1))->bodyPost Tryz.prog Tryz.f73 (bS w cb K how one S0 (O M.ds) ab) .ret P (bQ d (E (U w)+1) (vN kind) (vN n) (J I 0 0) (J I 0 0))):=by
  intro d next fk fa kind n a bI bJ bK P ac aH;obtain⟨aI,bL⟩:=dz (S:=λb=>(S0 b\/E (U w)<=b)/\b≠E (U w)+1) (D:=O M.ds) (w:=d) (kind:=kind) (n:=n) ⟨λt=>absurd t bI,bJ,bK⟩;exact gr Tryz.results73 ac aH a.zb oM a.eS a.c a.k aI (λaJ=>lT (bL aJ) a3)
 have aK:Hid (∀{d:World} {next fk fa:Int},PM w cb K how one (ae 18 pos l m name (J ko kl kc)) d next fk fa->∀P:Act,P.defers=[]->P.tmps.getD 4 undef=.pointer (aS (E (U w)+1))->bodyPost Tryz.prog Tryz.f73 (bS w cb K how one S0 (O M.ds) ab) .ret P (bQ d (E (U w)+1) (vN K.sk) (vN K.sn) (J K.iK K.iL K.iM) (J K.iN K.iO K.iP))):=by
  intro d next fk fa a P ac aH;have a6:=o.out.1.step o.out.2.1 a.k;exact gr Tryz.results73 ac aH a.zb oM a.eS a.c a.k (af.weaken (λb e _=>⟨.inl e.1,oH e.2⟩) _ _ a6.self) (λaJ=>lT (a6.sz aJ) a2)
 clear aF a4 a5 av a3 a2 aC au X a1 r;obtain⟨aL,bM⟩:∃aL,K.cj=aL:=⟨_,Q⟩;obtain⟨y,a7⟩:∃y,K.bg=y:=⟨_,Q⟩;have ce:O y<=30000:=by rw[<-a7];exact o.out.1.tf
 go_enter Tryz.func73,Tryz.ntmps73
 have C:=λf=>cell_of_row _ _ f _ 46 (0,0) N.nb;have A:=(gE N.nb).1;have F:=N.zb.cell;have G:=N.zb.fz;have u:=N.zb.lt;have H:=N.c.cell;have L:=N.c.fz;have r:=N.c.lt;go_wp2_with fail;clear C A F G u H L r;go_loopg [5,6,18] (O y) (λbN _ _ bO wr=>∃z:Nat,bN=O y - z/\bO=vN z/\z<=O y/\PM w cb K how one (ae 18 pos l m name (J ko kl kc)) wr next fk fa)
 case atStart=>exact⟨0,Q,Q,zL _,N⟩
 case round=>
  clear N;obtain⟨z,a8,rfl,bR,a⟩:=hrel;have a9:Hid (gk=O y - z):=a8;clear a8;have C:=λf=>cell_of_row wr _ f _ 46 (0,0) a.nb;have A:E (U w)<E (U wr):=(gE a.nb).1;have F:=a.zb.cell;have G:=a.zb.fz;have u:=a.zb.lt;have H:=a.c.cell;have L:=a.c.fz;have r:=a.c.lt;by_cases aM:z<O y
  ·have aN:(z:Int)<(O y:Int):=oM;obtain⟨aO,a'⟩:∃aO,y[z]? =some aO:=⟨_,gG aM⟩;obtain⟨g,aP,cf,_,cg⟩:=mj (i:=z) (x:=aO) (o.out.1.step o.out.2.1 a.k).tv (by rw[a7];exact a');obtain rfl:aL=some ⟨g,0,I⟩:=by rw[<-bM];exact aP
   clear a' aP;go_wp2_with (go_at_call 89;refine(ft a.c _ _).mono ?_;rintro t q ⟨aw,ax,rfl,R,V,ay⟩;have c:=a.step V R;have C:=λf=>cell_of_row q _ f _ 46 (0,0) c.nb;have A:E (U w)<E (U q):=(gE c.nb).1;have F:=c.zb.cell;have G:=c.zb.fz;have u:=c.zb.lt;have H:=c.c.cell;have L:=c.c.fz;have r:=c.c.lt)
   all_goals first
    |(go_light;exact aj.out 5 _ c dC dC dC _ Q Q)
    |(go_light;exact aj.out 5 _ a dC dC dC _ Q Q)
    |skip
   go_roundg (O y - (z+1))
   case measure=>rw[a9.out];omega
   case rel=>exact⟨z+1,Q,by go_num,aM,a⟩
  ·have aN:¬(z:Int)<(O y:Int):=oM;have bU:decide ((z:Int)<(O y:Int))=false:=sU aN;clear a9
   cases ad:(K.bR&&name.toList==[83,101,108,102])
   ·go_upto_region 9 with fail
    go_cut [46] (λbV aR=>bV=.bool false/\PM w cb K how one (ae 18 pos l m name (J ko kl kc)) aR next fk fa)
    case first=>
     cases bW:K.bR
     ·go_wp2_with fail;go_meet;exact⟨Q,a⟩
     ·have aT:(name.toList==[83,101,108,102])=false:=by rw[bW] at ad;simpa using ad
      go_wp2_with fail;go_meet;exact⟨Q,a⟩
    case rest=>
     clear C A F G u H L r;clear a aK ad aM aN bU bR;obtain⟨rfl,a⟩:=hcut;have v:Hid (PI wc K.mb M T):=(o.out.1.step o.out.2.1 a.k).pi;have C:=λf=>cell_of_row wc _ f _ 46 (0,0) a.nb;have A:E (U w)<E (U wc):=(gE a.nb).1;have F:=a.zb.cell;have G:=a.zb.fz;have u:=a.zb.lt;have H:=a.c.cell;have L:=a.c.fz;have r:=a.c.lt;have ba:=λf=>cell_of_row wc _ f _ 88 (0,0) v.out.eG;have aU:K.mb<E (U wc):=(gE v.out.eG).1;go_upto_region 13 with fail
     go_cut [7,8,9] (λbX bY b0 aR=>∃(aV:Nat) (aW:ByteArray) (az:Int) (s:Nm),bX=.pointer (aS aV)/\bY=.string aW/\b0=vN az/\FP w cb K how one (ae 18 pos l m name (J ko kl kc)) (O M.ds) T aR next fk fa aV s)
     case first=>
      have ak:Hid (∀{d:World},Below (E (U wc)) wc d->Below (E (U wc)) wc d/\(Ce d cb (dL K how next one fk fa))/\(Ce d K.mb (jO M))/\(Ce d (E (U w)) (ae 18 pos l m name (J ko kl kc)))):=λ{d} e=>⟨e,λf=>cell_of_row d _ f _ 126 (0,0) ((e.block _ r).trans a.c),λf=>cell_of_row d _ f _ 88 (0,0) ((e.block _ aU).trans v.out.eG),λf=>cell_of_row d _ f _ 46 (0,0) ((e.block _ A).trans a.nb)⟩
      go_region_held3 (λd=>Below (E (U wc)) wc d/\(Ce d cb (dL K how next one fk fa))/\(Ce d K.mb (jO M))/\(Ce d (E (U w)) (ae 18 pos l m name (J ko kl kc))))
       (first|assumption|exact ak.out ((Below.refl _ _).drew)|exact ak.out ((al1 _ _).1.drew)|exact ak.out ah|exact ak.out (ah.alloc ah.size _)|exact ak.out ((((ah.setCell (p:=⟨E (U wc),0,I⟩) (lR _) _).setCell (p:=⟨E (U wc),1,I⟩) (lR _) _).setCell (p:=⟨E (U wc),2,I⟩) (lR _) _).setCell (p:=⟨E (U wc),3,I⟩) (lR _) _))
       (first
        |(go_at_call 75;have aX:=(‹Below (E (U wc)) wc _/\_›).1;refine(pI (D:=O M.ds) (T:=T) v.out.bB.1 v.out.bB.2.2 (v.out.cK.below aX) v.out.q _ _ _ _ _ _ (i:=K.mod) o.out.1.mod _ o.out.2.2.2.2).mono ?_;rintro t q ⟨bb,bc,bd,rfl,bf,bg⟩;have ah:=aX.trans (bg.mono aX.size);have bh:=a.below ah;have bi:=ah.size;first|(have X:bw q (E (U wc)) (dR gJ):=(bg.block (E (U wc)) sQ).trans (al1 wc _).2;have ch:=X.cell;have ci:=X.fz;have cj:=X.lt)|skip))
      all_goals
       go_wp2_with fail;go_meet
       first
        |exact⟨E (U wc),bc,bd,bb,Q,Q,Q,⟨bh.qX oM _ _ _ _,bw.bQ X _ _ _ _,oM,bf⟩⟩
        |exact⟨E (U q),bc,bd,bb,Q,Q,Q,⟨bh.below (al1 _ _).1,(al1 _ _).2,by have:E (U wc)<=E (U q):=bi;omega,bf⟩⟩
     case rest=>
      clear a C A F G u H L r ba aU v;obtain⟨aV,aW,az,s,rfl,rfl,rfl,a⟩:=hcut;have v:Hid (PI wc K.mb M T):=(o.out.1.step o.out.2.1 a.pm.k).pi;have C:=λf=>cell_of_row wc _ f _ 46 (0,0) a.pm.nb;have A:E (U w)<E (U wc):=(gE a.pm.nb).1;have F:=a.pm.zb.cell;have G:=a.pm.zb.fz;have u:=a.pm.zb.lt;have H:=a.pm.c.cell;have L:=a.pm.c.fz;have r:=a.pm.c.lt;have ba:=λf=>cell_of_row wc _ f _ 88 (0,0) v.out.eG;have aU:K.mb<E (U wc):=(gE v.out.eG).1;have ck:=a.n.cell;have cl:=a.n.fz;have cm:=a.n.lt
      have B:Hid (∀{d:World},Below (E (U wc)) wc d->Cx d cb K M T (λb=>S0 b/\b<E (U w)) aB aa/\bP d cb K how next one fk fa/\isNode (λb=>b<B0) True (h+1) d (ae 18 pos l m name (J ko kl kc)).toList/\aG (h+1) d (ae 18 pos l m name (J ko kl kc)).toList=aG (h+1) w (ae 18 pos l m name (J ko kl kc)).toList):=by
       intro d e;have bj:al (λb=>b<B0) w d:=λb cn b1=>(e.block b (oH a.pm.k.size)).trans (a.pm.k.block b b1 oM);exact⟨(o.out.1.step o.out.2.1 a.pm.k).step a.pm.c (Kp.aq e),a.pm.c.below e,isNode.frame bj _ _ o.out.2.2.1,aQ bj _ _ o.out.2.2.1 _⟩
      by_cases bk:az=0
      ·subst bk
       cases co:(aW.toList==[])
       ·go_wp2_with (go_at_call 89;refine(ft a.pm.c _ _).mono ?_;rintro t q ⟨aw,ax,rfl,R,V,ay⟩;have c:=a.pm.step V R;have C:=λf=>cell_of_row q _ f _ 46 (0,0) c.nb;have A:E (U w)<E (U q):=(gE c.nb).1;have F:=c.zb.cell;have G:=c.zb.fz;have u:=c.zb.lt;have H:=c.c.cell;have L:=c.c.fz;have r:=c.c.lt)
        go_light;exact aj.out 0 _ c dC dC dC _ Q Q
       ·by_cases Y:s.sort=0
        ·have b2:(s.sort !=0)=false:=bF Y;have b3:(s.sort==0)=true:=eT Y;have b4:=a.q.2.1 Y;have b5:=a.q.1;clear Y;obtain⟨W,cp⟩:∃W:Nat,s.n=(W:Int):=⟨s.n.toNat,oM⟩;obtain⟨ag,ac⟩:∃ag,M.ds[W]? =some ag:=⟨_,gG oM⟩;obtain⟨bl,aP,cq,aY⟩:=v.out.data ac;obtain⟨b6,b7,b8,b9⟩:=v.out.lg ag (mG ac);obtain⟨ao,bm⟩:∃ao:Nat,ag.ak=(ao:Int):=⟨ag.ak.toNat,oM⟩;have cr:wc.cell? ⟨bl,W*10+6,I⟩=some (vN ao):=by rw[<-bm];exact aY 6 dC
         have cs:wc.cell? ⟨bl,W*10+7,I⟩=some (vN ag.cL):=aY 7 dC;have b':(W:Int)<(O M.ds:Int):=oM;have ct:=v.out.bB;have ca:ao<=6100:=oM;clear ac aY b4 b5 b6 b7 b8 b9 bm;go_wp2_with fail;go_quiet (fail)
         go_wp2_with fail;go_quiet (fail)
         go_wp2_with fail;have k:=λa=>fI (al1 wc (Ob (ai 4 (W:Int) (J I 0 0) (J I 0 0)) 39)).1 a;refine(mR @aE.out (B.out (k _)).1 (B.out (k _)).2.1 aD (B.out (k _)).2.2.1 (kind:=4) ⟨λ_=>⟨oM,b'⟩,dC,dC,dC⟩ ao ag.cL ca).mono ?_;rintro t bn ⟨bo,bp,bq,br,bs,bt,bu,bv,bx,bz,bA,rfl,ap,aq,⟨bB,ar⟩,Z⟩;have j:=(a.pm.below (k _)).step aq ap;rw[(B.out (k _)).2.2.2,<-o.out.2.2.2.1] at Z;have bC:=j.zb.cell;have bD:=j.zb.fz;have bE:=j.zb.lt;go_wp2_with fail;go_light
         exact gr Tryz.results73 Q Q j.zb oM j.eS j.c j.k (af.weaken (λb e _=>by
          have bG:=u;have aZ:=(k 0).size;have aT:∀a,E (U ((wc.alloc (Ob (ai 4 (W:Int) (J I 0 0) (J I 0 0)) 39)).drewN a))=E (U (wc.alloc (Ob (ai 4 (W:Int) (J I 0 0) (J I 0 0)) 39))):=λ_=>rfl;rw[aT] at aZ e;rcases e with e|e
          ·exact⟨.inl e.1,oH e.2⟩
          ·exact⟨.inr oM,oM⟩) _ _ ar) Z
        ·have b2:(s.sort !=0)=true:=bT Y;have b3:(s.sort==0)=false:=eF Y;by_cases aA:s.sort=1
         ·have aI:(s.sort !=1)=false:=bF aA;clear Y aA;have k:Below (E (U wc)) wc (wc.alloc (Ob (ai 9 s.n (J I 0 0) (J I 0 0)) 39)):=(al1 wc _).1;have bi:=k.size;by_cases cc:s.n≥10
          ·go_wp2_with fail;refine(mR @aE.out (B.out k).1 (B.out k).2.1 aD (B.out k).2.2.1 (kind:=9) ⟨λt=>absurd t dC,dC,dC,dC⟩ 1 1 dC).mono ?_;rintro t bn ⟨bo,bp,bq,br,bs,bt,bu,bv,bx,bz,bA,rfl,ap,aq,⟨bB,ar⟩,Z⟩;have j:=(a.pm.below k).step aq ap;rw[(B.out k).2.2.2,<-o.out.2.2.2.1] at Z;have bC:=j.zb.cell;have bD:=j.zb.fz;have bE:=j.zb.lt;go_wp2_with fail;go_light
           exact gr Tryz.results73 Q Q j.zb oM j.eS j.c j.k (af.weaken (λb e _=>by
            have bG:=u;have aZ:=(k).size;rcases e with e|e
            ·exact⟨.inl e.1,oH e.2⟩
            ·exact⟨.inr oM,oM⟩) _ _ ar) Z
          ·have cu:decide (s.n≥10)=false:=sU cc;go_wp2_with fail;refine(mR @aE.out (B.out k).1 (B.out k).2.1 aD (B.out k).2.2.1 (kind:=9) ⟨λt=>absurd t dC,dC,dC,dC⟩ 0 1 dC).mono ?_;rintro t bn ⟨bo,bp,bq,br,bs,bt,bu,bv,bx,bz,bA,rfl,ap,aq,⟨bB,ar⟩,Z⟩;have j:=(a.pm.below k).step aq ap;rw[(B.out k).2.2.2,<-o.out.2.2.2.1] at Z;have bC:=j.zb.cell;have bD:=j.zb.fz;have bE:=j.zb.lt;go_wp2_with fail;go_light
           exact gr Tryz.results73 Q Q j.zb oM j.eS j.c j.k (af.weaken (λb e _=>by
            have bG:=u;have aZ:=(k).size;rcases e with e|e
            ·exact⟨.inl e.1,oH e.2⟩
            ·exact⟨.inr oM,oM⟩) _ _ ar) Z
         ·have aI:(s.sort !=1)=true:=bT aA;clear Y aA;go_wp2_with (go_at_call 89;refine(ft a.pm.c _ _).mono ?_;rintro t q ⟨aw,ax,rfl,R,V,ay⟩;have c:=a.pm.step V R;have C:=λf=>cell_of_row q _ f _ 46 (0,0) c.nb;have A:E (U w)<E (U q):=(gE c.nb).1;have F:=c.zb.cell;have G:=c.zb.fz;have u:=c.zb.lt;have H:=c.c.cell;have L:=c.c.fz;have r:=c.c.lt)
          go_light;exact aj.out 0 _ c dC dC dC _ Q Q
      ·have cv:(az !=0)=true:=bT bk;go_wp2_with (go_at_call 89;refine(ft a.pm.c _ _).mono ?_;rintro t q ⟨aw,ax,rfl,R,V,ay⟩;have c:=a.pm.step V R;have C:=λf=>cell_of_row q _ f _ 46 (0,0) c.nb;have A:E (U w)<E (U q):=(gE c.nb).1;have F:=c.zb.cell;have G:=c.zb.fz;have u:=c.zb.lt;have H:=c.c.cell;have L:=c.c.fz;have r:=c.c.lt)
       go_light;exact aj.out 0 _ c dC dC dC _ Q Q
   ·have cw:K.bR=true:=by simp at ad;exact ad.1
    have aT:(name.toList==[83,101,108,102])=true:=by simp at ad;simp[ad.2]
    go_wp2_with (go_at_call 89;refine(ft a.c _ _).mono ?_;rintro t q ⟨aw,ax,rfl,R,V,ay⟩;have c:=a.step V R;have C:=λf=>cell_of_row q _ f _ 46 (0,0) c.nb;have A:E (U w)<E (U q):=(gE c.nb).1;have F:=c.zb.cell;have G:=c.zb.fz;have u:=c.zb.lt;have H:=c.c.cell;have L:=c.c.fz;have r:=c.c.lt)
    all_goals first
     |(go_light;exact aK.out c _ Q Q)
     |(go_light;exact aK.out a _ Q Q)
end
section
variable{s:ByteArray} {i:Nat}
theorem rE:∀(d:List (List UInt8)),d≠[]->(∀a∈d,a≠[]/\(58:UInt8)∉a)->∃b c,fM d=b::c/\b≠58
 |[],h,_=>absurd Q h
 |[a],_,hn=>by
  obtain⟨e,f⟩:=hn a (List.mem_cons_self ..)
  cases a with
  |nil=>exact absurd Q e
  |cons b c=>exact⟨b,c,Q,λj=>f (by rw[j];exact List.mem_cons_self ..)⟩
 |a::m::r,_,hn=>by
  obtain⟨e,f⟩:=hn a (List.mem_cons_self ..)
  cases a with
  |nil=>exact absurd Q e
  |cons b c=>exact⟨b,c++58::58::fM (m::r),Q,λj=>f (by rw[j];exact List.mem_cons_self ..)⟩
theorem og:∀(f:List (List UInt8)),f≠[]->(∀a∈f,a≠[]/\(58:UInt8)∉a)->∀i:Nat,(fM f)[i]? =some 58->(fM f)[i+1]? =some 58->(fM f)[i+2]? ≠some 58
 |[],h,_=>absurd Q h
 |[a],_,hn=>λi c _=>absurd (mG c) (hn a (List.mem_cons_self ..)).2
 |a::m::r,_,hn=>λi c d e=>by
  have k:∀j∈m::r,j≠[]/\(58:UInt8)∉j:=λj p=>hn j (List.mem_cons_of_mem _ p);obtain⟨u,v,l,n⟩:=rE (m::r) sQ k;have q:=(hn a (List.mem_cons_self ..)).2;have t:fM (a::m::r)=a++58::58::fM (m::r):=rfl;rw[t] at c d e;rcases Nat.lt_or_ge i (O a) with o|o
  ·rw[List.getElem?_append_left o] at c;exact q (mG c)
  ·obtain⟨b,rfl⟩:∃b,i=O a+b:=⟨i - (O a),oM⟩;rw[List.getElem?_append_right oM,show O a+b+1 - (O a)=b+1 by omega] at d;rw[List.getElem?_append_right oM,show O a+b+2 - (O a)=b+2 by omega] at e;rw[List.getElem?_append_right oM,show O a+b - (O a)=b by omega] at c
   cases b with
   |zero=>
    rw[l] at e;simp at e;exact n e
   |succ b=>
    cases b with
    |zero=>
     rw[l] at d;simp at d;exact n d
    |succ b=>
     simp only[List.getElem?_cons_succ] at c d e;exact og (m::r) sQ k b c d e
theorem mS (h:i<s.size) (a:(((s[i]'h).toNat:Int)==58)=true):s.toList[i]? =some 58:=by
 have b:s.toList=s.data.toList:=ByteArray.toList_eq s
 have c:s.data.toList[i]? =some (s[i]'h):=by
  rw[Array.getElem?_toList,Array.getElem?_eq_getElem (by exact h)];rfl
 rw[b,c]
 have d:(s[i]'h).toNat=58:=by
  have:=eq_of_beq a;omega
 congr 1
 exact UInt8.toNat_inj.1 (by rw[d];rfl)
theorem cD.nt {k:Nat} (h:cD k s) (b:s.size<=20000):NT s:=by
 obtain⟨c,d,_,e,f⟩:=h;refine⟨b,λi ⟨o,j,l⟩ ⟨m,p,n⟩=>?_⟩;have a:=og c d e i;rw[<-f] at a;exact a (mS _ j) (mS _ l) (mS m n)
theorem qu (h:s.toList[i]? =some 58):∃a:i<s.size,(((s[i]'a).toNat:Int)==58)=true:=by
 have b:s.toList=s.data.toList:=ByteArray.toList_eq s;rw[b,Array.getElem?_toList] at h;obtain⟨a,c⟩:=gE h;refine⟨a,?_⟩;have d:s[i]'a=58:=c;rw[d];rfl
theorem cD.two (h:cD 2 s) (f:¬cD 1 s):∃i,rS s i:=by
 obtain⟨j,c,d,b,a⟩:=h;match j,c,d,b,a with
 |[],c,_,_,_=>exact absurd Q c
 |[n],_,_,b,a=>exact absurd ⟨[n],sQ,sQ,b,a⟩ f
 |[n,m],_,_,b,a=>
  have e:s.toList=n++58::58::m:=a;have k:s.toList[O n]? =some 58:=by rw[e,List.getElem?_append_right oM];simp
  have l:s.toList[O n+1]? =some 58:=by rw[e,List.getElem?_append_right oM];simp
  obtain⟨_,o⟩:=qu k;obtain⟨p,q⟩:=qu l;exact⟨O n,p,o,q⟩
 |_::_::_::_,_,d,_,_=>simp at d
end
section
variable{nd:Array Value} {K:CK} {fa fa2 fk fk2 how kind n next next2 one r:Int} {D H X Y cb la tb:Nat} {S0:Nat->Prop} {W w w2 wc:World}
theorem hJ {l:Func} {r:Nat} (m:l.results=#[.cell r 39]) {k:Act} (o:k.defers=[]) {z:Nat} (p:k.tmps.getD r undef=.pointer (aS z)) {a:OA} {c d:Nat} {e:OA} {i j:Nat} (q:aN W z (ai kind n (J a c d) (J e i j))) (s:bP W cb K how next one fk fa) (t:Kp (E (U w)) cb w W)
 (u:af (λb=>S0 b\/E (U w)<=b) (Gd D) H W (ai kind n (J a c d) (J e i j)).toList) (v:∀f,aU f W (ai kind n (J a c d) (J e i j)).toList<=X):
  bodyPost Tryz.prog l (bS w cb K how one S0 D X) .ret k W:=
  bodyPost_ret (dQ m p q) o ⟨kind,n,a,c,d,e,i,j,next,fk,fa,Q,s,t,⟨H,u⟩,v⟩
structure TM (w:World) (cb:Nat) (K:CK) (how one:Int) (nd:Array Value) (wr:World) (next fk fa:Int) (tb:Nat) (kind n:Int) (la:Nat) (r:Int):Prop where
 pm:PM w cb K how one nd wr next fk fa
 t:aN wr tb (ai kind n (J (aS la) 1 1) (J I 0 0))
 l:wr.heap[la]? =some (Ob #[vN r] 3 (0,0))
 xJ:E (U w)+1<tb
 ya:E (U w)+1<la
 ne:tb≠la
section
variable{w wr w':World} {cb:Nat} {K:CK} {how one:Int} {nd:Array Value} {next fk fa next' fk' fa':Int} {tb:Nat} {kind n:Int} {la:Nat} {r:Int}
theorem TM.zl (q:TM w cb K how one nd wr next fk fa tb kind n la r):la<E (U wr):=(gE q.l).1
theorem TM.step (q:TM w cb K how one nd wr next fk fa tb kind n la r) (a:Kp (E (U wr)) cb wr w') (b:bP w' cb K how next' one fk' fa'):TM w cb K how one nd w' next' fk' fa' tb kind n la r:=by
 have i:=q.pm.eS;have c:=q.xJ;have d:=q.ya;have e:=q.t.lt;have f:=q.zl;exact⟨q.pm.step a b,(a.block _ e oM).trans q.t,(a.block _ f oM).trans q.l,c,d,q.ne⟩
theorem TM.kF (q:TM w cb K how one nd wr next fk fa tb kind n la r) (x:Int):TM w cb K x one nd (wr.setCell ⟨cb,9,I⟩ (vN x)) next fk fa tb kind n la r:=by
 have c:=q.pm.eS;have d:=q.xJ;have e:=q.ya;have a:∀b,b≠cb->(wr.setCell ⟨cb,9,I⟩ (vN x)).heap[b]? =wr.heap[b]? :=λb f=>Below.heap_setCell _ ⟨cb,9,I⟩ _ _ f;exact⟨⟨Kp.setCell (p:=⟨cb,9,I⟩) q.pm.k (.inr Q) _,q.pm.c.qY x,c,(a _ oM).trans q.pm.nb,(a _ oM).trans q.pm.zb⟩,(a _ oM).trans q.t,(a _ oM).trans q.l,d,e,q.ne⟩
theorem PM.uX (q:PM w cb K how one nd wr next fk fa) {nb:Nat} (hl:E (U w)+1<nb) (c0 c1 c2 c3:Value):PM w cb K how one nd (bQ wr nb c0 c1 c2 c3) next fk fa:=q.qX hl c0 c1 c2 c3
theorem TM.o1 (q:PM w cb K how one nd wr next fk fa) (kind n r:Int):TM w cb K how one nd ((wr.alloc (Ob #[vN r] 3)).alloc (Ob (ai kind n (J (aS (E (U wr))) 1 1) (J I 0 0)) 39)) next fk fa (E (U wr)+1) kind n (E (U wr)) r:=by
 obtain⟨a,b,c⟩:=eI wr (Ob #[vN r] 3) (Ob (ai kind n (J (aS (E (U wr))) 1 1) (J I 0 0)) 39);have:=q.zb.lt;exact⟨q.below a,c,b,oM,oM,oM⟩
theorem TM.o2 (q:PM w cb K how one nd wr next fk fa) (kind n r:Int):TM w cb K how one nd ((wr.alloc (Ob (ai kind n (J (aS (E (U wr)+1)) 1 1) (J I 0 0)) 39)).alloc (Ob #[vN r] 3)) next fk fa (E (U wr)) kind n (E (U wr)+1) r:=by
 obtain⟨a,b,c⟩:=eI wr (Ob (ai kind n (J (aS (E (U wr)+1)) 1 1) (J I 0 0)) 39) (Ob #[vN r] 3);have:=q.zb.lt;exact⟨q.below a,b,c,oM,oM,oM⟩
theorem TM.o3 (q:PM w cb K how one nd wr next fk fa) (a:aN wr tb dF) (hl:E (U w)+1<tb) (kind n r:Int):TM w cb K how one nd ((bQ wr tb (vN kind) (vN n) (J (aS (E (U wr))) 1 1) (J I 0 0)).alloc (Ob #[vN r] 3)) next fk fa tb kind n (E (U wr)) r:=by
 have c:=q.uX hl (vN kind) (vN n) (J (aS (E (U wr))) 1 1) (J I 0 0);have f:=a.lt;have i:=q.zb.lt;have d:E (U (bQ wr tb (vN kind) (vN n) (J (aS (E (U wr))) 1 1) (J I 0 0)))=E (U wr):=sQ;obtain⟨e,b⟩:=al1 (bQ wr tb (vN kind) (vN n) (J (aS (E (U wr))) 1 1) (J I 0 0)) (Ob #[vN r] 3);rw[d] at b;exact⟨c.below e,(aN.bQ a _ _ _ _).alloc _,b,hl,oM,oM⟩
end
theorem sN {S:Nat->Prop} (h:W.heap[la]? =some (Ob #[vN r] 3 (0,0))) (hS:S la):ro W S 1 (J (aS la) 1 1) [r].length (aC [r]):=
 ⟨some ⟨la,0,I⟩,1,Q,Q,λ_=>⟨la,Q,hS,(gE h).1,λa b=>by
  rw[cell_of_row W la a _ 3 (0,0) h];obtain rfl:a=0:=by simp at b;omega
  rfl⟩⟩
theorem yC (q:TM w cb K how one nd wc next fk fa tb kind 0 la r) (ar:kind=6\/kind=7) (B:Kp (E (U wc)) cb wc w2) (C:bP w2 cb K how next2 one fk2 fa2) {c a:Int} {d:OA} {e i:Nat} {j:OA} {k l:Nat}
 (F:af (λb=>(S0 b/\b<E (U w))\/E (U wc)<=b) (Gd D) H w2 (ai c a (J d e i) (J j k l)).toList) (T:∀f,aU f w2 (ai c a (J d e i) (J j k l)).toList<=Y) (V:1+Y<=X) (x:Act) (Z:x.defers=[]) (aa:x.tmps.getD 4 undef=.pointer (some ⟨E (U w)+1,0,I⟩)):
  bodyPost Tryz.prog Tryz.f50 (bS w cb K how one S0 D X) .ret x ((bQ (w2.setCell ⟨tb,3,I⟩ (J (aS (E (U w2))) 1 1)) (E (U w)+1) (vN kind) (vN 0) (J (aS la) 1 1) (J (aS (E (U w2))) 1 1)).alloc (Ob (ai c a (J d e i) (J j k l)) 39)):=by
  have y:=q.step B C;have au:=q.pm.eS;have av:=q.xJ;have aw:=q.ya;have ax:=q.ne;have ay:=q.t.lt;have az:=q.zl;have aA:=B.size;have aB:=q.pm.k.size;obtain⟨m,t⟩:∃m,m=bQ (w2.setCell ⟨tb,3,I⟩ (J (aS (E (U w2))) 1 1)) (E (U w)+1) (vN kind) (vN 0) (J (aS la) 1 1) (J (aS (E (U w2))) 1 1):=⟨_,Q⟩;have ab:E (U m)=E (U w2):=by rw[t];simp
  have ac:aN m (E (U w)+1) (ai kind 0 (J (aS la) 1 1) (J (aS (E (U w2))) 1 1)):=by
   rw[t];exact aN.bQ (y.pm.zb.other (p:=⟨tb,3,I⟩) (by show E (U w)+1≠tb;omega) _) _ _ _ _
  have ad:∀b,b≠tb->b≠E (U w)+1->m.heap[b]? =w2.heap[b]? :=λb z a=>by
   rw[t];exact(Below.heap_setCell _ ⟨E (U w)+1,3,I⟩ _ _ a).trans ((Below.heap_setCell _ ⟨E (U w)+1,2,I⟩ _ _ a).trans ((Below.heap_setCell _ ⟨E (U w)+1,1,I⟩ _ _ a).trans ((Below.heap_setCell _ ⟨E (U w)+1,0,I⟩ _ _ a).trans (Below.heap_setCell _ ⟨tb,3,I⟩ _ _ z))))
  have ae:Kp (E (U w)) cb w m:=by
   rw[t];exact Kp.bQ (Kp.setCell (p:=⟨tb,3,I⟩) y.pm.k (.inl (by show E (U w)<=tb;omega)) _) (Nat.le_add_right _ _) _ _ _ _
  rw[<-t];clear t;obtain⟨W,L⟩:∃W,W=m.alloc (Ob (ai c a (J d e i) (J j k l)) 39):=⟨_,Q⟩;obtain⟨u,v⟩:=al1 m (Ob (ai c a (J d e i) (J j k l)) 39);rw[<-L] at u v⊢;rw[ab] at u v;have A:∀b,b<E (U w2)->b≠tb->b≠E (U w)+1->W.heap[b]? =w2.heap[b]? :=λb ag z a=>(u.block b ag).trans (ad b z a);have M:E (U w2)<=E (U W):=oH u.size;have N:al (λb=>((S0 b/\b<E (U w))\/E (U wc)<=b)) w2 W:=λb o ah=>A b ah (by rcases o with o|o<;>omega) (by rcases o with o|o<;>omega);have aj:af (λb=>S0 b\/E (U w)<=b) (Gd D) H W (ai c a (J d e i) (J j k l)).toList:=af.weaken (λb o _=>o.imp (λs=>s.1) (λs=>by omega)) _ _ (af.frame N M _ _ F)
  have P:∀s∈[(ai c a (J d e i) (J j k l)).toList],af (λb=>S0 b\/E (U w)<=b) (Gd D) H W s:=by
   intro s ak;rw[List.mem_singleton.1 ak];exact aj
  have ao:W.heap[la]? =some (Ob #[vN r] 3 (0,0)):=(A la oM oM oM).trans y.l
  have R:ro W (λb=>S0 b\/E (U w)<=b) 4 (J (aS (E (U w2))) 1 1) [(ai c a (J d e i) (J j k l)).toList].length [(ai c a (J d e i) (J j k l)).toList].flatten:=
   ⟨some ⟨E (U w2),0,I⟩,1,Q,Q,λ_=>⟨E (U w2),Q,.inr oM,(gE v).1,λap aC=>by
    rw[cell_of_row W _ ap _ 39 (0,0) v];simp⟩⟩
  refine hJ Tryz.results50 Z aa (ac.alloc _ |> λs=>by rw[L];exact s) (next:=next2) (fk:=fk2) (fa:=fa2) ?_ (ae.trans (Kp.aq ?_)) (H:=H+1) ?_ (λf=>?_)
  ·exact(A cb oM oM oM).trans C
  ·exact u.mono oM
  ·exact kR (sN ao (.inr oM)) R sQ sQ ⟨sQ,λaq=>by omega,λ_=>⟨Q,Q⟩,λaq=>by omega⟩ P
  ·cases f with
   |zero=>exact zL _
   |succ f=>
    rw[gQ (S:=λb=>S0 b\/E (U w)<=b) (G:=Gd D) (h:=H) R P];have:=T f;rw[<-aJ N M _ _ F] at this;exact lT (Nat.add_le_add_left (show aU f W _+0<=Y from this) 1) V
theorem yB (q:TM w cb K 4 one nd wc next fk fa tb 8 n la r) (y:Kp (E (U wc)) cb wc w2) (z:bP w2 cb K 4 next2 one fk2 fa2) {e:OA} {f:Nat} {vs:VV} (ac:O vs<=20000)
 (l:lC wc cb (λb=>S0 b/\b<E (U w)) D w2 (J e (O vs) f) vs Y) (ad:1+Y<=X) (o:Act) (L:o.defers=[]) (M:o.tmps.getD 4 undef=.pointer (aS (E (U w)+1))):
  bodyPost Tryz.prog Tryz.f50 (bS w cb K how one S0 D X) .ret o (bQ ((w2.setCell ⟨tb,3,I⟩ (J e (O vs) f)).setCell ⟨cb,9,I⟩ (vN how)) (E (U w)+1) (vN 8) (vN n) (J (aS la) 1 1) (J e (O vs) f)):=by
  have s:=q.step y z;have ae:=q.pm.eS;have ag:=q.xJ;have ah:=q.ya;have aj:=q.ne;have ak:=q.t.lt;have ao:=q.zl;have ap:=y.size;have aq:=q.pm.k.size;obtain⟨W,i⟩:∃W,W=bQ ((w2.setCell ⟨tb,3,I⟩ (J e (O vs) f)).setCell ⟨cb,9,I⟩ (vN how)) (E (U w)+1) (vN 8) (vN n) (J (aS la) 1 1) (J e (O vs) f):=⟨_,Q⟩;have ar:E (U W)=E (U w2):=by rw[i];simp
  have N:aN W (E (U w)+1) (ai 8 n (J (aS la) 1 1) (J e (O vs) f)):=by
   rw[i];exact aN.bQ ((s.pm.zb.other (p:=⟨tb,3,I⟩) (by show E (U w)+1≠tb;omega) _).other (p:=⟨cb,9,I⟩) (by show E (U w)+1≠cb;omega) _) _ _ _ _
  have t:∀b,b≠E (U w)+1->W.heap[b]? =((w2.setCell ⟨tb,3,I⟩ (J e (O vs) f)).setCell ⟨cb,9,I⟩ (vN how)).heap[b]? :=λb j=>by
   rw[i];exact(Below.heap_setCell _ ⟨E (U w)+1,3,I⟩ _ _ j).trans ((Below.heap_setCell _ ⟨E (U w)+1,2,I⟩ _ _ j).trans ((Below.heap_setCell _ ⟨E (U w)+1,1,I⟩ _ _ j).trans (Below.heap_setCell _ ⟨E (U w)+1,0,I⟩ _ _ j)))
  have u:∀b,b≠tb->b≠E (U w)+1->b≠cb->W.heap[b]? =w2.heap[b]? :=λb P j R=>(t b j).trans ((Below.heap_setCell _ ⟨cb,9,I⟩ _ _ R).trans (Below.heap_setCell _ ⟨tb,3,I⟩ _ _ P));have T:bP W cb K how next2 one fk2 fa2:=(t cb oM).trans ((z.other (p:=⟨tb,3,I⟩) (by show cb≠tb;omega) _).qY how)
  have V:Kp (E (U w)) cb w W:=by
   rw[i];exact Kp.bQ (Kp.setCell (p:=⟨cb,9,I⟩) (Kp.setCell (p:=⟨tb,3,I⟩) s.pm.k (.inl (by show E (U w)<=tb;omega)) _) (.inr Q) _) (Nat.le_add_right _ _) _ _ _ _
  rw[<-i];clear i t;obtain⟨H,Z⟩:=l.all;have A:al (λb=>((S0 b/\b<E (U w)/\b≠cb)\/E (U wc)<=b)) w2 W:=λb a aa=>u b (by rcases a with a|a<;>omega) (by rcases a with a|a<;>omega) (by rcases a with a|a<;>omega);have v:E (U w2)<=E (U W):=oM;have B:∀c∈vs,af (λb=>((S0 b/\b<E (U w)/\b≠cb)\/E (U wc)<=b)) (Gd D) H w2 c:=λc m=>af.weaken (λb a _=>a.1.imp (λx=>⟨x.1,x.2,(l.s0 b x).1⟩) id) _ _ (Z c m);have C:∀c∈vs,af (λb=>S0 b\/E (U w)<=b) (Gd D) H W c:=λc m=>af.weaken (λb a _=>a.imp (λc=>c.1) (λc=>by omega)) _ _ (af.frame A v _ _ (B c m));have ab:W.heap[la]? =some (Ob #[vN r] 3 (0,0)):=(u la oM oM oM).trans s.l
  have F:ro W (λb=>S0 b\/E (U w)<=b) 4 (J e (O vs) f) (O vs) vs.flatten:=
   ((ro.bJ l.row (λb a=>(l.row.lt b a).1):ro w2 (λb=>E (U wc)<=b) 4 _ _ _).frame (λb a aa=>u b oM oM oM) v).weaken (λb a _=>.inr oM)
  refine hJ Tryz.results50 L M N T V (H:=H+1) ?_ (λk=>?_)
  ·exact kR (sN ab (.inr oM)) F sQ oM ⟨sQ,λd=>absurd d dC,λd=>by rcases d with d|d<;>exact absurd d dC,λd=>absurd d dC⟩ C
  ·cases k with
   |zero=>exact zL _
   |succ k=>
    rw[gQ (S:=λb=>S0 b\/E (U w)<=b) (G:=Gd D) (h:=H) F C];have:=l.sz k;have d:vs.map (aU k W)=vs.map (aU k w2):=List.map_congr_left (λc m=>aJ A v _ _ (B c m) k);rw[d];omega
end
section
variable{K:CK} {fa how next one:Int} {cb:Nat} {S0:Nat->Prop} {w:World}
theorem yD {W c:World} {r:Array Value} {fk s t u:Int} {D X Y:Nat} (q:PM w cb K how one r W next fk fa) (v:Kp (E (U W)) cb W c) (x:bP c cb K how s one t u) {i:OA} {j:Nat} {vs:VV} (C:O vs<=20000)
 (e:lC W cb (λb=>S0 b/\b<E (U w)) D c (J i (O vs) j) vs Y) (F:1+Y<=X) (k:Act) (y:k.defers=[]) (z:k.tmps.getD 4 undef=.pointer (aS (E (U w)+1))):
  bodyPost Tryz.prog Tryz.f50 (bS w cb K how one S0 D X) .ret k (bQ c (E (U w)+1) (vN 3) (vN 0) (J I 0 0) (J i (O vs) j)):=by
  have f:=q.step v x;have G:=q.zb.lt;obtain⟨H,A⟩:=e.all
  have n:∀b,((S0 b/\b<E (U w))\/E (U W)<=b)->(S0 b\/E (U w)<=b)/\b≠E (U w)+1:=by
   rintro b (d|d)
   ·exact⟨.inl d.1,oM⟩
   ·exact⟨.inr oM,oM⟩
  have o:ro c (λb=>(S0 b\/E (U w)<=b)/\b≠E (U w)+1) 4 (J i (O vs) j) (O vs) vs.flatten:=ro.bJ e.row (λb d=>n b (.inr (e.row.lt b d).1));have p:∀l∈vs,af (λb=>(S0 b\/E (U w)<=b)/\b≠E (U w)+1) (Gd D) H c l:=λl B=>af.weaken (λb d _=>n b d.1) _ _ (A l B);refine gr Tryz.results50 y z f.zb oM f.eS f.c f.k (H:=H+1) (kR (ls:=[]) (mr _ _ _) o sQ oM ⟨sQ,λa=>absurd a dC,λa=>by rcases a with a|a<;>exact absurd a dC,λa=>absurd a dC⟩ p) (λm=>?_)
  cases m with
  |zero=>exact zL _
  |succ m=>
   rw[gQ o p];have:=e.sz m;omega
theorem sj {h:Nat} (z:bZ h) {M:MK} {T:Nat} {o i B0:Nat} (d:Cx w cb K M T S0 o i) (k:bP w cb K how next one 0 fa) (Z:B0<=cb) {pos n m:Int} {name:ByteArray} {ko:OA} {kl kc:Nat} (A:isNode (λb=>b<B0) True (h+1) w (ae 15 pos n m name (J ko kl kc)).toList):
 Calls Tryz.prog 50 #[.pointer (some ⟨cb,0,I⟩),.agg (ae 15 pos n m name (J ko kl kc))] w (bS w cb K how one S0 (O M.ds) (aG (h+1) w (ae 15 pos n m name (J ko kl kc)).toList*i)):=by
 have aa:Hid (bZ h):=@z;clear z;obtain⟨a,rfl,p,q,B,C,av,ab,-,-⟩:=A.kids;obtain⟨l,r⟩:∃l,l=aG (h+1) w (ae 15 pos n m name (J ko (O a) kc)).toList*i:=⟨_,Q⟩;rw[<-r];have D:l=(1+(a.map (aG h w)).sum)*i:=by rw[r,C]
 have F:=k.lt;have aw:=d.z1;have G:Hid (Cx w cb K M T (λb=>S0 b/\b<E (U w)) o i/\bP w cb K how next one 0 fa):=⟨d.low,k⟩;obtain⟨s,H,L⟩:=eI w (Ob (ae 15 pos n m name (J ko (O a) kc)) 46) (Ob dF 39);have c:PM w cb K how one (ae 15 pos n m name (J ko (O a) kc)) ((w.alloc (Ob (ae 15 pos n m name (J ko (O a) kc)) 46)).alloc (Ob dF 39)) next 0 fa:=⟨Kp.aq s,k.below s,F,H,L⟩;have t:Hid (∀{u:World},Kp (E (U w)) cb w u->al (λb=>b<B0) w u):=λ{u} ac b e ad=>ac.block b ad oM;have af:Hid (∀b,(S0 b/\b<E (U w))->b≠cb/\b<E (U w)):=λb e=>⟨d.s0 b e.1,e.2⟩;have ag:Hid (Cx ((w.alloc (Ob (ae 15 pos n m name (J ko (O a) kc)) 46)).alloc (Ob dF 39)) cb K M T (λb=>S0 b/\b<E (U w)) o i):=G.out.1.step G.out.2 c.k;have ah:Hid (cZ B0 ((w.alloc (Ob (ae 15 pos n m name (J ko (O a) kc)) 46)).alloc (Ob dF 39)) (J ko (O a) kc) a):=p.frame (t.out c.k) oM;have ai:Hid (∀j∈a,isNode (λb=>b<B0) True h ((w.alloc (Ob (ae 15 pos n m name (J ko (O a) kc)) 46)).alloc (Ob dF 39)) j/\cH (aA j)):=λj d=>⟨isNode.frame (t.out c.k) _ _ (q j d),B.tuple Q _ (List.mem_map_of_mem d)⟩;have aj:Hid ((a.map (aG h ((w.alloc (Ob (ae 15 pos n m name (J ko (O a) kc)) 46)).alloc (Ob dF 39)))).sum=(a.map (aG h w)).sum):=congrArg List.sum (List.map_congr_left (λj d=>aQ (t.out c.k) _ _ (q j d) h));have ak:Hid (1+(a.map (aG h w)).sum*i<=l):=by show _<=_;rw[D,Nat.add_mul,Nat.one_mul];omega
 have ao:=p.len.2;clear r D p q B C ab A;clear s H L d k;go_enter Tryz.func50,Tryz.ntmps50
 have N:=λv=>cell_of_row _ _ v _ 46 (0,0) c.nb;have P:=(gE c.nb).1;have R:=c.zb.cell;have S:=c.zb.fz;have V:=c.zb.lt;go_wp2_with (go_at_call 70;refine(iR c.c).mono ?_;rintro ap x ⟨rfl,rfl⟩)
 refine(fJ @aa.out ag.out c.c Z ah.out ai.out).mono ?_;rintro ap x ⟨ax,ay,aq,az,aB,aC,rfl,W,X,Y,y⟩;rw[aj.out] at y;have f:=c.step Y X;have ar:O aq<=20000:=by rw[W];exact ao
 have au:=y.mono (S1:=λb=>S0 b/\b<E (U w)) (λb e=>e.1) (λb e=>⟨(af.out b e).1,oI e.2 c.k.size⟩);clear N P R S V y W;have N:=λv=>cell_of_row x _ v _ 46 (0,0) f.nb;have P:E (U w)<E (U x):=(gE f.nb).1;have R:=f.zb.cell;have S:=f.zb.fz;have V:=f.zb.lt;have aD:=f.c.cell;have aE:=f.c.fz;have F:=f.c.lt;go_wp2_with fail;go_light;exact yD c Y X ar au ak.out _ Q Q
end
end Go.Proofs.YtcnnibahjmekdaaGreat
