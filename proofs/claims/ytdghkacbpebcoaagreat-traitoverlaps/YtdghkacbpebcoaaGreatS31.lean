import Derived.Test.YtdghkacbpebcoaaGreatS28
namespace Go.Proofs.YtdghkacbpebcoaaGreat
open Go.RowKit
open Value renaming slice→J
open List renaming length→O
open Option renaming none→I
open World renaming heap→U
open _root_.Array renaming size→E
open Obj renaming cells→Ob
set_option linter.all false
set_option maxRecDepth 100000
set_option maxHeartbeats 0
theorem tS {h:Nat} (ar:bV h) {w:World} {c:Nat} {K:CK} {M:MK} {T:Nat} {u:Nat->Prop} {W P B0:Nat} {how next one fk fa:Int} (j:Cx w c K M T u W P) (R:bJ w c K how next one fk fa) (au:B0<=c) {pos t m:Int} {name:ByteArray} {g:Nat} {kc nl:Nat} {ks:VV} (x:GN h B0 w (aS g) kc ks nl) {kind n:Int} (av:(kind=4->0<=n/\n<(O M.ds:Int))/\kind≠5/\kind≠6/\kind≠7) (f:Nat) (aw:Int) (hl:f<=6100) (aP:nl<O ks) (bs:((O ks:Int) - (nl:Int) !=aw)=false) (bt:((nl:Int) !=0)=false) (bu:((nl:Int)==0)=true):
 Calls Tryz.prog 84 #[.pointer (some ⟨c,0,I⟩),.agg (ae 18 pos t m name (J (some ⟨g,0,I⟩) (O ks) kc)),.agg (ak kind n (J I 0 0) (J I 0 0)),.int .i64 f,.int .i64 aw] w (bE w c K how one u (O M.ds) ((1+(ks.map (aG h w)).sum)*P)):=by
 have ax:Hid (bV h):=@ar;clear ar;have bv:=x.km;have bw:=x.uu;have bx:=x.tC;have aQ:=j.z1;have aR:=R.lt;have X:Hid (Cx w c K M T (λb=>u b/\b<E (U w)) W P):=j.low;have ay:Hid (bJ w c K how next one fk fa):=R;have o:Hid (GN h B0 w (aS g) kc ks nl):=x;obtain⟨Y,aA,aB,aC⟩:=mZ w (Ob (ae 18 pos t m name (J (aS g) (O ks) kc)) 48) (Ob (ak kind n (J I 0 0) (J I 0 0)) 41) (Ob eJ 41);have aD:GM w c K how one (ae 18 pos t m name (J (aS g) (O ks) kc)) kind n (((w.alloc (Ob (ae 18 pos t m name (J (aS g) (O ks) kc)) 48)).alloc (Ob (ak kind n (J I 0 0) (J I 0 0)) 41)).alloc (Ob eJ 41)) I 0 [] next fk fa:=⟨Kp.al Y,R.below Y,aR,aA,aB,aC,World.ownsRow_nil _ _ _ _⟩;clear Y aA aB aC j R x;have aU:Hid ((kind=4->0<=n/\n<(O M.ds:Int))/\kind≠5/\kind≠6/\kind≠7):=av;clear av;go_enter Tryz.func84,Tryz.ntmps84
 go_wp2_with fail;go_loopg [11] (O ks) (λZ aa wr=>∃d:Nat,Z=O ks - d/\aa=vN d/\d<=nl/\GM w c K how one (ae 18 pos t m name (J (aS g) (O ks) kc)) kind n wr I 0 [] next fk fa)
 case atStart=>exact⟨0,Q,Q,zL _,aD⟩
 case round=>
  clear aD;obtain⟨d,aE,rfl,aV,a⟩:=hrel;have aW:Hid (gk=O ks - d):=aE;clear aE;have y:=λq=>cell_of_row wr _ q _ 48 (0,0) a.nb;have z:E (U w)<E (U wr):=(gE a.nb).1;have A:=a.tb.cell;have B:=a.tb.fz;have C:=a.tb.lt;have D:=a.zb.cell;have F:=a.zb.fz;have G:=a.zb.lt;by_cases ab:d<nl
  ·obtain⟨ac,aX,aY,aZ,a0,a1,a2,a3,ad,-,af,a4,H,S,-⟩:=o.out.er d oM;obtain rfl:g=ad:=sU af;obtain rfl:=S ab;have V:(d:Int)<(O ks:Int):=oM;have a5:wr.cell? ⟨g,d*11,I⟩=some (vN 19):=(a.k.cell (p:=⟨g,d*11,I⟩) (by show g<_;omega) (by show g≠c;omega)).trans (H 0 dC);have a6:g<E (U wr):=oM;clear H;go_wp2_with fail;go_roundg (O ks - (d+1))
   case measure=>rw[aW.out];omega
   case rel=>exact⟨d+1,Q,by go_num,ab,a⟩
  ·obtain rfl:nl=d:=oM;clear ab aV;obtain⟨ac,aX,aY,aZ,a0,a1,a2,a3,ad,-,af,a4,H,-,S⟩:=o.out.er nl aP;obtain rfl:g=ad:=sU af
   have bz:(ac==19)=false:=by
    have:=S (lR _);have bA:=this.1;have bB:=this.2;exact eF oM
   have V:(nl:Int)<(O ks:Int):=oM;have a5:wr.cell? ⟨g,nl*11,I⟩=some (vN ac):=(a.k.cell (p:=⟨g,nl*11,I⟩) (by show g<_;omega) (by show g≠c;omega)).trans (H 0 dC);have a6:g<E (U wr):=oM;clear H S;go_wp2_with fail;go_loopg [12] f (λZ aa wr=>∃(e:Nat) (ag:OA) (ah:Nat) (k:List Int) (next fk fa:Int),Z=f - e/\aa=vN e/\e<=f/\O k=e/\GM w c K how one (ae 18 pos t m name (J (aS g) (O ks) kc)) kind n wr ag ah k next fk fa)
   case atStart=>exact⟨0,I,0,[],next,fk,fa,Q,Q,zL _,Q,a⟩
   case round=>
    clear a y z A B C D F G;obtain⟨e,ag,ah,k,next,fk,fa,aF,rfl,bC,aH,a⟩:=hrel;have a7:Hid (gk=f - e):=aF;have aI:Hid (O k=e):=aH;have a8:O k<=30000:=oM;clear aF aH;have y:=λq=>cell_of_row wr _ q _ 48 (0,0) a.nb;have z:E (U w)<E (U wr):=(gE a.nb).1;have A:=a.tb.cell;have B:=a.tb.fz;have C:=a.tb.lt;have D:=a.zb.cell;have F:=a.zb.fz;have G:=a.zb.lt;by_cases a9:e<f
    ·have V:(e:Int)<(f:Int):=oM;go_wp2_with fail;go_region_law (first|(refine bg 38 (v:=J ag (O k) ah) (xv:=J (aS (E (U ai))) 1 1) rQ rQ rQ rQ (i.run aJ a8 _ Q) ?_;rintro bD bF ⟨a',ba,rfl,aj,bb⟩;have bG:=aj.cell;have bH:=aj.fz;have bI:=aj.lt)|(go_simp;refine(fE a.drew.c ((X.out.step ay.out a.k).step a.c (Kp.refl _ _ _).drew).lv X.out.lf _ _).mono ?_;rintro bc ai ⟨aJ,bd,bf,bh,rfl,bi,bj,-⟩;have i:=a.drew.step bj bi;have y:=λq=>cell_of_row ai _ q _ 48 (0,0) i.nb;have z:E (U w)<E (U ai):=(gE i.nb).1;have A:=i.tb.cell;have B:=i.tb.fz;have C:=i.tb.lt;have D:=i.zb.cell;have F:=i.zb.fz;have G:=i.zb.lt))
     all_goals
      go_wp2_with fail;go_roundg (f - (e+1))
      case measure=>rw[a7.out];omega
      case rel=>exact⟨e+1,a',ba,k++[aJ],bd,bf,bh,Q,by go_num,a9,by simp[aI.out],sU bb⟩
    ·have V:¬(e:Int)<(f:Int):=oM;have bK:decide ((e:Int)<(f:Int))=false:=sU V;have bL:(nl:Int)<=(O ks:Int):=oM;have bM:(O ks:Int)<=(kc:Int):=oM;have bk:O k<=6100:=oH aI.out;have L:aq (λb=>b<B0) w wr:=λb N hl=>a.k.block b hl oM;have bl:Hid (∀al r,O ks - nl=0->cU B0 wr (J al (O ks - nl) r) (ks.drop nl)):=λal r bm=>(o.out.uO al r bm).frame L oM;have bn:Hid (∀r,cU B0 wr (J (some ⟨g,nl*11,I⟩) (O ks - nl) r) (ks.drop nl)):=λr=>(o.out.xz r).frame L oM;have aK:Hid (∀s∈ks.drop nl,isNode (λb=>b<B0) True h wr s/\cx (az s)):=λs j=>⟨isNode.frame L _ _ (o.out.node s (List.mem_of_mem_drop j)),o.out.ty s j⟩;have bo:Hid (((ks.drop nl).map (aG h wr)).sum=((ks.drop nl).map (aG h w)).sum):=congrArg List.sum (List.map_congr_left (λs j=>aT L _ _ (o.out.node s (List.mem_of_mem_drop j)) h));have ao:Hid (Cx wr c K M T (λb=>u b/\b<E (U w)) W P):=X.out.step ay.out a.k;clear L;go_wp2_with fail
     all_goals
      first
       |refine(fK @ax.out ao.out a.c au (bn.out _) aK.out).mono ?_
       |refine(fK @ax.out ao.out a.c au (bl.out _ _ oM) aK.out).mono ?_
      rintro bc aL ⟨bN,bO,bp,bP,bQ,bR,rfl,aM,aN,aO,ap⟩;rw[bo.out] at ap;have l:=a.step aO aN;have bq:O bp<=20000:=by rw[aM];simp;omega
      have br:=ap.mono (S1:=λb=>u b/\b<E (U w)) (λb N=>N.1) (λb N=>⟨ao.out.s0 b N,oI N.2 a.k.size⟩);clear y z A B C D F G ap aM;have y:=λq=>cell_of_row aL _ q _ 48 (0,0) l.nb;have z:E (U w)<E (U aL):=(gE l.nb).1;have A:=l.tb.cell;have B:=l.tb.fz;have C:=l.tb.lt;have D:=l.zb.cell;have F:=l.zb.fz;have G:=l.zb.lt;go_wp2_with fail;go_light;exact iB aU.out aQ a bk aN aO bq br _ Q Q
theorem rA {h:Nat} (z:bV h) {w:World} {c:Nat} {K:CK} {M:MK} {T:Nat} {l:Nat->Prop} {A o B0:Nat} {how next one fk fa:Int} (q:Cx w c K M T l A o) (j:bJ w c K how next one fk fa) (aD:B0<=c) {pos e m:Int} {name:ByteArray} {g:Nat} {kc nl:Nat} {ks:VV} (f:GN h B0 w (aS g) kc ks nl) {kind n:Int} (B:(kind=4->0<=n/\n<(O M.ds:Int))/\kind≠5/\kind≠6/\kind≠7) (r:Nat) (R:Int) (hl:r<=6100) (S:nl<O ks) (aE:((nl:Int) !=0)=true) (aF:((nl:Int) !=(r:Int))=true):
 Calls Tryz.prog 84 #[.pointer (some ⟨c,0,I⟩),.agg (ae 18 pos e m name (J (some ⟨g,0,I⟩) (O ks) kc)),.agg (ak kind n (J I 0 0) (J I 0 0)),.int .i64 r,.int .i64 R] w (bE w c K how one l (O M.ds) ((1+(ks.map (aG h w)).sum)*o)):=by
 have aH:Hid (bV h):=@z;clear z;have aI:=f.km;have aJ:=f.uu;have aK:=f.tC;have V:=q.z1;have W:=j.lt;have aL:Hid (Cx w c K M T (λC=>l C/\C<E (U w)) A o):=q.low;have aM:Hid (bJ w c K how next one fk fa):=j;have D:Hid (GN h B0 w (aS g) kc ks nl):=f;obtain⟨s,F,G,H⟩:=mZ w (Ob (ae 18 pos e m name (J (aS g) (O ks) kc)) 48) (Ob (ak kind n (J I 0 0) (J I 0 0)) 41) (Ob eJ 41);have L:GM w c K how one (ae 18 pos e m name (J (aS g) (O ks) kc)) kind n (((w.alloc (Ob (ae 18 pos e m name (J (aS g) (O ks) kc)) 48)).alloc (Ob (ak kind n (J I 0 0) (J I 0 0)) 41)).alloc (Ob eJ 41)) I 0 [] next fk fa:=⟨Kp.al s,j.below s,W,F,G,H,World.ownsRow_nil _ _ _ _⟩;clear s F G H q j f;have X:Hid ((kind=4->0<=n/\n<(O M.ds:Int))/\kind≠5/\kind≠6/\kind≠7):=B;clear B;go_enter Tryz.func84,Tryz.ntmps84
 go_wp2_with fail;go_loopg [11] (O ks) (λY Z wr=>∃a:Nat,Y=O ks - a/\Z=vN a/\a<=nl/\GM w c K how one (ae 18 pos e m name (J (aS g) (O ks) kc)) kind n wr I 0 [] next fk fa)
 case atStart=>exact⟨0,Q,Q,zL _,L⟩
 case round=>
  clear L;obtain⟨a,N,rfl,aa,b⟩:=hrel;have ab:Hid (gk=O ks - a):=N;clear N;have ac:=λt=>cell_of_row wr _ t _ 48 (0,0) b.nb;have ad:E (U w)<E (U wr):=(gE b.nb).1;have af:=b.tb.cell;have ag:=b.tb.fz;have ah:=b.tb.lt;have ai:=b.zb.cell;have aj:=b.zb.fz;have al:=b.zb.lt;by_cases u:a<nl
  ·obtain⟨v,ao,ap,aq,ar,au,av,aw,x,-,y,ax,i,k,-⟩:=D.out.er a oM;obtain rfl:g=x:=sU y;obtain rfl:=k u;have ay:(a:Int)<(O ks:Int):=oM;have az:wr.cell? ⟨g,a*11,I⟩=some (vN 19):=(b.k.cell (p:=⟨g,a*11,I⟩) (by show g<_;omega) (by show g≠c;omega)).trans (i 0 dC);have aA:g<E (U wr):=oM;clear i;go_wp2_with fail;go_roundg (O ks - (a+1))
   case measure=>rw[ab.out];omega
   case rel=>exact⟨a+1,Q,by go_num,u,b⟩
  ·obtain rfl:nl=a:=oM;clear u aa;obtain⟨v,ao,ap,aq,ar,au,av,aw,x,-,y,ax,i,-,k⟩:=D.out.er nl S;obtain rfl:g=x:=sU y
   have aN:(v==19)=false:=by
    have:=k (lR _);have aO:=this.1;have aP:=this.2;exact eF oM
   have ay:(nl:Int)<(O ks:Int):=oM;have az:wr.cell? ⟨g,nl*11,I⟩=some (vN v):=(b.k.cell (p:=⟨g,nl*11,I⟩) (by show g<_;omega) (by show g≠c;omega)).trans (i 0 dC);have aA:g<E (U wr):=oM;clear i k;go_wp2_with (go_at_call 83;refine(fm b.c _ _).mono ?_;rintro aQ P ⟨aR,aT,rfl,aB,aC,-⟩;have d:=b.step aC aB;have ac:=λt=>cell_of_row P _ t _ 48 (0,0) d.nb;have ad:E (U w)<E (U P):=(gE d.nb).1;have af:=d.tb.cell;have ag:=d.tb.fz;have ah:=d.tb.lt;have ai:=d.zb.cell;have aj:=d.zb.fz;have al:=d.zb.lt)
   all_goals
    go_light;exact eR X.out V d _ Q Q
theorem tQ {h:Nat} (ai:bV h) {w:World} {e:Nat} {K:CK} {M:MK} {T:Nat} {s:Nat->Prop} {S N B0:Nat} {how next one fk fa:Int} (j:Cx w e K M T s S N) (P:bJ w e K how next one fk fa) (aJ:B0<=e) {pos r m:Int} {name:ByteArray} {ko:OA} {kc nl:Nat} {ks:VV} (t:GN h B0 w ko kc ks nl) {kind n:Int} (aj:(kind=4->0<=n/\n<(O M.ds:Int))/\kind≠5/\kind≠6/\kind≠7) (f:Nat) (al:Int) (hl:f<=6100) (bf:¬nl<O ks) (bh:((O ks:Int) - (nl:Int) !=al)=false) (bi:((nl:Int) !=0)=false) (bj:((nl:Int)==0)=true):
 Calls Tryz.prog 84 #[.pointer (some ⟨e,0,I⟩),.agg (ae 18 pos r m name (J ko (O ks) kc)),.agg (ak kind n (J I 0 0) (J I 0 0)),.int .i64 f,.int .i64 al] w (bE w e K how one s (O M.ds) ((1+(ks.map (aG h w)).sum)*N)):=by
 have aK:Hid (bV h):=@ai;clear ai;have bk:=t.km;have bl:=t.uu;have bm:=t.tC;have aL:=j.z1;have aM:=P.lt;have V:Hid (Cx w e K M T (λb=>s b/\b<E (U w)) S N):=j.low;have ao:Hid (bJ w e K how next one fk fa):=P;have u:Hid (GN h B0 w ko kc ks nl):=t;obtain⟨W,ap,ar,au⟩:=mZ w (Ob (ae 18 pos r m name (J ko (O ks) kc)) 48) (Ob (ak kind n (J I 0 0) (J I 0 0)) 41) (Ob eJ 41);have av:GM w e K how one (ae 18 pos r m name (J ko (O ks) kc)) kind n (((w.alloc (Ob (ae 18 pos r m name (J ko (O ks) kc)) 48)).alloc (Ob (ak kind n (J I 0 0) (J I 0 0)) 41)).alloc (Ob eJ 41)) I 0 [] next fk fa:=⟨Kp.al W,P.below W,aM,ap,ar,au,World.ownsRow_nil _ _ _ _⟩;clear W ap ar au j P t;have aN:Hid ((kind=4->0<=n/\n<(O M.ds:Int))/\kind≠5/\kind≠6/\kind≠7):=aj;clear aj;go_enter Tryz.func84,Tryz.ntmps84
 go_wp2_with fail;go_loopg [11] (O ks) (λX Y wr=>∃c:Nat,X=O ks - c/\Y=vN c/\c<=nl/\GM w e K how one (ae 18 pos r m name (J ko (O ks) kc)) kind n wr I 0 [] next fk fa)
 case atStart=>exact⟨0,Q,Q,zL _,av⟩
 case round=>
  clear av;obtain⟨c,aw,rfl,aO,a⟩:=hrel;have aP:Hid (gk=O ks - c):=aw;clear aw;have x:=λo=>cell_of_row wr _ o _ 48 (0,0) a.nb;have y:E (U w)<E (U wr):=(gE a.nb).1;have z:=a.tb.cell;have A:=a.tb.fz;have B:=a.tb.lt;have C:=a.zb.cell;have D:=a.zb.fz;have F:=a.zb.lt;by_cases Z:c<nl
  ·obtain⟨bn,bo,bp,bq,br,bs,bt,bu,G,-,aQ,bv,ax,aR,-⟩:=u.out.er c oM;subst aQ;obtain rfl:=aR Z;have H:(c:Int)<(O ks:Int):=oM;have bw:wr.cell? ⟨G,c*11,I⟩=some (vN 19):=(a.k.cell (p:=⟨G,c*11,I⟩) (by show G<_;omega) (by show G≠e;omega)).trans (ax 0 dC);have bx:G<E (U wr):=oM;clear ax;go_wp2_with fail;go_roundg (O ks - (c+1))
   case measure=>rw[aP.out];omega
   case rel=>exact⟨c+1,Q,by go_num,Z,a⟩
  ·obtain rfl:nl=c:=oM;clear Z aO;have H:¬(nl:Int)<(O ks:Int):=oM;have aU:decide ((nl:Int)<(O ks:Int))=false:=sU H;go_wp2_with fail;go_loopg [12] f (λX Y wr=>∃(d:Nat) (aa:OA) (ab:Nat) (k:List Int) (next fk fa:Int),X=f - d/\Y=vN d/\d<=f/\O k=d/\GM w e K how one (ae 18 pos r m name (J ko (O ks) kc)) kind n wr aa ab k next fk fa)
   case atStart=>exact⟨0,I,0,[],next,fk,fa,Q,Q,zL _,Q,a⟩
   case round=>
    clear a x y z A B C D F;obtain⟨d,aa,ab,k,next,fk,fa,ay,rfl,bz,aA,a⟩:=hrel;have aV:Hid (gk=f - d):=ay;have aB:Hid (O k=d):=aA;have aW:O k<=30000:=oM;clear ay aA;have x:=λo=>cell_of_row wr _ o _ 48 (0,0) a.nb;have y:E (U w)<E (U wr):=(gE a.nb).1;have z:=a.tb.cell;have A:=a.tb.fz;have B:=a.tb.lt;have C:=a.zb.cell;have D:=a.zb.fz;have F:=a.zb.lt;by_cases aX:d<f
    ·have H:(d:Int)<(f:Int):=oM;go_wp2_with fail;go_region_law (first|(refine bg 38 (v:=J aa (O k) ab) (xv:=J (aS (E (U ac))) 1 1) rQ rQ rQ rQ (i.run aC aW _ Q) ?_;rintro bA bB ⟨aY,aZ,rfl,ad,a0⟩;have bC:=ad.cell;have bD:=ad.fz;have bF:=ad.lt)|(go_simp;refine(fE a.drew.c ((V.out.step ao.out a.k).step a.c (Kp.refl _ _ _).drew).lv V.out.lf _ _).mono ?_;rintro a1 ac ⟨aC,a2,a3,a4,rfl,a5,a6,-⟩;have i:=a.drew.step a6 a5;have x:=λo=>cell_of_row ac _ o _ 48 (0,0) i.nb;have y:E (U w)<E (U ac):=(gE i.nb).1;have z:=i.tb.cell;have A:=i.tb.fz;have B:=i.tb.lt;have C:=i.zb.cell;have D:=i.zb.fz;have F:=i.zb.lt))
     all_goals
      go_wp2_with fail;go_roundg (f - (d+1))
      case measure=>rw[aV.out];omega
      case rel=>exact⟨d+1,aY,aZ,k++[aC],a2,a3,a4,Q,by go_num,aX,by simp[aB.out],sU a0⟩
    ·have H:¬(d:Int)<(f:Int):=oM;have aU:decide ((d:Int)<(f:Int))=false:=sU H;have bG:(nl:Int)<=(O ks:Int):=oM;have bH:(O ks:Int)<=(kc:Int):=oM;have a7:O k<=6100:=oH aB.out;have R:aq (λb=>b<B0) w wr:=λb L hl=>a.k.block b hl oM;have a8:Hid (∀af ag,O ks - nl=0->cU B0 wr (J af (O ks - nl) ag) (ks.drop nl)):=λaf ag a9=>(u.out.uO af ag a9).frame R oM;have a':Hid (∀q∈ks.drop nl,isNode (λb=>b<B0) True h wr q/\cx (az q)):=λq j=>⟨isNode.frame R _ _ (u.out.node q (List.mem_of_mem_drop j)),u.out.ty q j⟩;have ba:Hid (((ks.drop nl).map (aG h wr)).sum=((ks.drop nl).map (aG h w)).sum):=congrArg List.sum (List.map_congr_left (λq j=>aT R _ _ (u.out.node q (List.mem_of_mem_drop j)) h));have aD:Hid (Cx wr e K M T (λb=>s b/\b<E (U w)) S N):=V.out.step ao.out a.k;clear R;go_wp2_with fail
     all_goals
      refine(fK @aK.out aD.out a.c aJ (a8.out _ _ oM) a'.out).mono ?_;rintro a1 aE ⟨bI,bK,bb,bL,bM,bN,rfl,aF,aH,aI,ah⟩;rw[ba.out] at ah;have l:=a.step aI aH;have bc:O bb<=20000:=by rw[aF];simp;omega
      have bd:=ah.mono (S1:=λb=>s b/\b<E (U w)) (λb L=>L.1) (λb L=>⟨aD.out.s0 b L,oI L.2 a.k.size⟩);clear x y z A B C D F ah aF;have x:=λo=>cell_of_row aE _ o _ 48 (0,0) l.nb;have y:E (U w)<E (U aE):=(gE l.nb).1;have z:=l.tb.cell;have A:=l.tb.fz;have B:=l.tb.lt;have C:=l.zb.cell;have D:=l.zb.fz;have F:=l.zb.lt;go_wp2_with fail;go_light;exact iB aN.out aL a a7 aH aI bc bd _ Q Q
theorem ru {h:Nat} (u:bV h) {w:World} {c:Nat} {K:CK} {M:MK} {T:Nat} {k:Nat->Prop} {v l B0:Nat} {how next one fk fa:Int} (o:Cx w c K M T k v l) (j:bJ w c K how next one fk fa) (ap:B0<=c) {pos e m:Int} {name:ByteArray} {ko:OA} {kc nl:Nat} {ks:VV} (f:GN h B0 w ko kc ks nl) {kind n:Int} (x:(kind=4->0<=n/\n<(O M.ds:Int))/\kind≠5/\kind≠6/\kind≠7) (q:Nat) (L:Int) (hl:q<=6100) (aq:¬nl<O ks) (ar:((nl:Int) !=0)=true) (au:((nl:Int) !=(q:Int))=true):
 Calls Tryz.prog 84 #[.pointer (some ⟨c,0,I⟩),.agg (ae 18 pos e m name (J ko (O ks) kc)),.agg (ak kind n (J I 0 0) (J I 0 0)),.int .i64 q,.int .i64 L] w (bE w c K how one k (O M.ds) ((1+(ks.map (aG h w)).sum)*l)):=by
 have av:Hid (bV h):=@u;clear u;have aw:=f.km;have ax:=f.uu;have ay:=f.tC;have N:=o.z1;have P:=j.lt;have az:Hid (Cx w c K M T (λy=>k y/\y<E (U w)) v l):=o.low;have aA:Hid (bJ w c K how next one fk fa):=j;have R:Hid (GN h B0 w ko kc ks nl):=f;obtain⟨r,z,A,B⟩:=mZ w (Ob (ae 18 pos e m name (J ko (O ks) kc)) 48) (Ob (ak kind n (J I 0 0) (J I 0 0)) 41) (Ob eJ 41);have C:GM w c K how one (ae 18 pos e m name (J ko (O ks) kc)) kind n (((w.alloc (Ob (ae 18 pos e m name (J ko (O ks) kc)) 48)).alloc (Ob (ak kind n (J I 0 0) (J I 0 0)) 41)).alloc (Ob eJ 41)) I 0 [] next fk fa:=⟨Kp.al r,j.below r,P,z,A,B,World.ownsRow_nil _ _ _ _⟩;clear r z A B o j f;have S:Hid ((kind=4->0<=n/\n<(O M.ds:Int))/\kind≠5/\kind≠6/\kind≠7):=x;clear x;go_enter Tryz.func84,Tryz.ntmps84
 go_wp2_with fail;go_loopg [11] (O ks) (λV W wr=>∃a:Nat,V=O ks - a/\W=vN a/\a<=nl/\GM w c K how one (ae 18 pos e m name (J ko (O ks) kc)) kind n wr I 0 [] next fk fa)
 case atStart=>exact⟨0,Q,Q,zL _,C⟩
 case round=>
  clear C;obtain⟨a,D,rfl,X,b⟩:=hrel;have Y:Hid (gk=O ks - a):=D;clear D;have Z:=λs=>cell_of_row wr _ s _ 48 (0,0) b.nb;have aa:E (U w)<E (U wr):=(gE b.nb).1;have ab:=b.tb.cell;have ac:=b.tb.fz;have ad:=b.tb.lt;have af:=b.zb.cell;have ag:=b.zb.fz;have ah:=b.zb.lt;by_cases t:a<nl
  ·obtain⟨aB,aC,aD,aE,aF,aH,aI,aJ,i,-,ai,aK,F,aj,-⟩:=R.out.er a oM;subst ai;obtain rfl:=aj t;have G:(a:Int)<(O ks:Int):=oM;have aL:wr.cell? ⟨i,a*11,I⟩=some (vN 19):=(b.k.cell (p:=⟨i,a*11,I⟩) (by show i<_;omega) (by show i≠c;omega)).trans (F 0 dC);have aM:i<E (U wr):=oM;clear F;go_wp2_with fail;go_roundg (O ks - (a+1))
   case measure=>rw[Y.out];omega
   case rel=>exact⟨a+1,Q,by go_num,t,b⟩
  ·obtain rfl:nl=a:=oM;clear t X;have G:¬(nl:Int)<(O ks:Int):=oM;have aN:decide ((nl:Int)<(O ks:Int))=false:=sU G;go_wp2_with (go_at_call 83;refine(fm b.c _ _).mono ?_;rintro aO H ⟨aP,aQ,rfl,al,ao,-⟩;have d:=b.step ao al;have Z:=λs=>cell_of_row H _ s _ 48 (0,0) d.nb;have aa:E (U w)<E (U H):=(gE d.nb).1;have ab:=d.tb.cell;have ac:=d.tb.fz;have ad:=d.tb.lt;have af:=d.zb.cell;have ag:=d.zb.fz;have ah:=d.zb.lt)
   all_goals
    go_light;exact eR S.out N d _ Q Q
theorem rr {h:Nat} (t:bV h) {w:World} {c:Nat} {K:CK} {M:MK} {T:Nat} {k:Nat->Prop} {u l B0:Nat} {how next one fk fa:Int} (o:Cx w c K M T k u l) (j:bJ w c K how next one fk fa) (ap:B0<=c) {pos e m:Int} {name:ByteArray} {ko:OA} {kc nl:Nat} {ks:VV} (f:GN h B0 w ko kc ks nl) {kind n:Int} (v:(kind=4->0<=n/\n<(O M.ds:Int))/\kind≠5/\kind≠6/\kind≠7) (x:Nat) (y:Int) (hl:x<=6100) (aq:¬nl<O ks) (ar:((nl:Int) !=0)=false) (au:((O ks:Int) - (nl:Int) !=y)=true):
 Calls Tryz.prog 84 #[.pointer (some ⟨c,0,I⟩),.agg (ae 18 pos e m name (J ko (O ks) kc)),.agg (ak kind n (J I 0 0) (J I 0 0)),.int .i64 x,.int .i64 y] w (bE w c K how one k (O M.ds) ((1+(ks.map (aG h w)).sum)*l)):=by
 have av:Hid (bV h):=@t;clear t;have aw:=f.km;have ax:=f.uu;have ay:=f.tC;have N:=o.z1;have P:=j.lt;have az:Hid (Cx w c K M T (λz=>k z/\z<E (U w)) u l):=o.low;have aA:Hid (bJ w c K how next one fk fa):=j;have R:Hid (GN h B0 w ko kc ks nl):=f;obtain⟨q,A,B,C⟩:=mZ w (Ob (ae 18 pos e m name (J ko (O ks) kc)) 48) (Ob (ak kind n (J I 0 0) (J I 0 0)) 41) (Ob eJ 41);have D:GM w c K how one (ae 18 pos e m name (J ko (O ks) kc)) kind n (((w.alloc (Ob (ae 18 pos e m name (J ko (O ks) kc)) 48)).alloc (Ob (ak kind n (J I 0 0) (J I 0 0)) 41)).alloc (Ob eJ 41)) I 0 [] next fk fa:=⟨Kp.al q,j.below q,P,A,B,C,World.ownsRow_nil _ _ _ _⟩;clear q A B C o j f;have S:Hid ((kind=4->0<=n/\n<(O M.ds:Int))/\kind≠5/\kind≠6/\kind≠7):=v;clear v;go_enter Tryz.func84,Tryz.ntmps84
 go_wp2_with fail;go_loopg [11] (O ks) (λV W wr=>∃a:Nat,V=O ks - a/\W=vN a/\a<=nl/\GM w c K how one (ae 18 pos e m name (J ko (O ks) kc)) kind n wr I 0 [] next fk fa)
 case atStart=>exact⟨0,Q,Q,zL _,D⟩
 case round=>
  clear D;obtain⟨a,F,rfl,X,b⟩:=hrel;have Y:Hid (gk=O ks - a):=F;clear F;have Z:=λr=>cell_of_row wr _ r _ 48 (0,0) b.nb;have aa:E (U w)<E (U wr):=(gE b.nb).1;have ab:=b.tb.cell;have ac:=b.tb.fz;have ad:=b.tb.lt;have af:=b.zb.cell;have ag:=b.zb.fz;have ah:=b.zb.lt;by_cases s:a<nl
  ·obtain⟨aB,aC,aD,aE,aF,aH,aI,aJ,i,-,ai,aK,G,aj,-⟩:=R.out.er a oM;subst ai;obtain rfl:=aj s;have H:(a:Int)<(O ks:Int):=oM;have aL:wr.cell? ⟨i,a*11,I⟩=some (vN 19):=(b.k.cell (p:=⟨i,a*11,I⟩) (by show i<_;omega) (by show i≠c;omega)).trans (G 0 dC);have aM:i<E (U wr):=oM;clear G;go_wp2_with fail;go_roundg (O ks - (a+1))
   case measure=>rw[Y.out];omega
   case rel=>exact⟨a+1,Q,by go_num,s,b⟩
  ·obtain rfl:nl=a:=oM;clear s X;have H:¬(nl:Int)<(O ks:Int):=oM;have aN:decide ((nl:Int)<(O ks:Int))=false:=sU H;go_wp2_with (go_at_call 83;refine(fm b.c _ _).mono ?_;rintro aO L ⟨aP,aQ,rfl,al,ao,-⟩;have d:=b.step ao al;have Z:=λr=>cell_of_row L _ r _ 48 (0,0) d.nb;have aa:E (U w)<E (U L):=(gE d.nb).1;have ab:=d.tb.cell;have ac:=d.tb.fz;have ad:=d.tb.lt;have af:=d.zb.cell;have ag:=d.zb.fz;have ah:=d.zb.lt)
   all_goals
    go_light;exact eR S.out N d _ Q Q
theorem rj {h:Nat} (u:bV h) {w:World} {c:Nat} {K:CK} {M:MK} {T:Nat} {k:Nat->Prop} {v l B0:Nat} {how next one fk fa:Int} (o:Cx w c K M T k v l) (j:bJ w c K how next one fk fa) (ap:B0<=c) {pos e m:Int} {name:ByteArray} {ko:OA} {kc nl:Nat} {ks:VV} (f:GN h B0 w ko kc ks nl) {kind n:Int} (x:(kind=4->0<=n/\n<(O M.ds:Int))/\kind≠5/\kind≠6/\kind≠7) (q:Nat) (y:Int) (hl:q<=6100) (aq:¬nl<O ks) (ar:((nl:Int) !=0)=true) (au:((nl:Int) !=(q:Int))=false) (av:((O ks:Int) - (nl:Int) !=y)=true):
 Calls Tryz.prog 84 #[.pointer (some ⟨c,0,I⟩),.agg (ae 18 pos e m name (J ko (O ks) kc)),.agg (ak kind n (J I 0 0) (J I 0 0)),.int .i64 q,.int .i64 y] w (bE w c K how one k (O M.ds) ((1+(ks.map (aG h w)).sum)*l)):=by
 have aw:Hid (bV h):=@u;clear u;have ax:=f.km;have ay:=f.uu;have az:=f.tC;have N:=o.z1;have P:=j.lt;have aA:Hid (Cx w c K M T (λz=>k z/\z<E (U w)) v l):=o.low;have aB:Hid (bJ w c K how next one fk fa):=j;have R:Hid (GN h B0 w ko kc ks nl):=f;obtain⟨r,A,B,C⟩:=mZ w (Ob (ae 18 pos e m name (J ko (O ks) kc)) 48) (Ob (ak kind n (J I 0 0) (J I 0 0)) 41) (Ob eJ 41);have D:GM w c K how one (ae 18 pos e m name (J ko (O ks) kc)) kind n (((w.alloc (Ob (ae 18 pos e m name (J ko (O ks) kc)) 48)).alloc (Ob (ak kind n (J I 0 0) (J I 0 0)) 41)).alloc (Ob eJ 41)) I 0 [] next fk fa:=⟨Kp.al r,j.below r,P,A,B,C,World.ownsRow_nil _ _ _ _⟩;clear r A B C o j f;have S:Hid ((kind=4->0<=n/\n<(O M.ds:Int))/\kind≠5/\kind≠6/\kind≠7):=x;clear x;go_enter Tryz.func84,Tryz.ntmps84
 go_wp2_with fail;go_loopg [11] (O ks) (λV W wr=>∃a:Nat,V=O ks - a/\W=vN a/\a<=nl/\GM w c K how one (ae 18 pos e m name (J ko (O ks) kc)) kind n wr I 0 [] next fk fa)
 case atStart=>exact⟨0,Q,Q,zL _,D⟩
 case round=>
  clear D;obtain⟨a,F,rfl,X,b⟩:=hrel;have Y:Hid (gk=O ks - a):=F;clear F;have Z:=λs=>cell_of_row wr _ s _ 48 (0,0) b.nb;have aa:E (U w)<E (U wr):=(gE b.nb).1;have ab:=b.tb.cell;have ac:=b.tb.fz;have ad:=b.tb.lt;have af:=b.zb.cell;have ag:=b.zb.fz;have ah:=b.zb.lt;by_cases t:a<nl
  ·obtain⟨aC,aD,aE,aF,aH,aI,aJ,aK,i,-,ai,aL,G,aj,-⟩:=R.out.er a oM;subst ai;obtain rfl:=aj t;have H:(a:Int)<(O ks:Int):=oM;have aM:wr.cell? ⟨i,a*11,I⟩=some (vN 19):=(b.k.cell (p:=⟨i,a*11,I⟩) (by show i<_;omega) (by show i≠c;omega)).trans (G 0 dC);have aN:i<E (U wr):=oM;clear G;go_wp2_with fail;go_roundg (O ks - (a+1))
   case measure=>rw[Y.out];omega
   case rel=>exact⟨a+1,Q,by go_num,t,b⟩
  ·obtain rfl:nl=a:=oM;clear t X;have H:¬(nl:Int)<(O ks:Int):=oM;have aO:decide ((nl:Int)<(O ks:Int))=false:=sU H;go_wp2_with (go_at_call 83;refine(fm b.c _ _).mono ?_;rintro aP L ⟨aQ,aR,rfl,al,ao,-⟩;have d:=b.step ao al;have Z:=λs=>cell_of_row L _ s _ 48 (0,0) d.nb;have aa:E (U w)<E (U L):=(gE d.nb).1;have ab:=d.tb.cell;have ac:=d.tb.fz;have ad:=d.tb.lt;have af:=d.zb.cell;have ag:=d.zb.fz;have ah:=d.zb.lt)
   all_goals
    go_light;exact eR S.out N d _ Q Q
section
variable{kind n:Int} {ls:List Int} {D ad lc:Nat} {S:Nat->Prop} {lo:OA} {w wr:World}
theorem af.fin {G:Int->Int->Nat->Nat->Prop}:(h:Nat)->(cs:List Value)->af S G h w cs->∃c,∀a,bW a w cs<=c
 |0,_,hn=>absurd hn (λb=>b)
 |h+1,cs,⟨kind,n,lv,av,ls,vs,h1,h2,h3,h4,h5,h6,h7⟩=>by
  have f:∀d:VV,(∀b∈d,af S G h w b)->∃c,∀a,(d.map (bW a w)).sum<=c:=by
   intro d;induction d with
   |nil=>intro _;exact⟨0,λa=>lR _⟩
   |cons b r i=>
    intro e;obtain⟨j,k⟩:=af.fin h b (e b sQ);obtain⟨l,m⟩:=i (λo p=>e o (List.mem_cons_of_mem _ p));refine⟨j+l,λa=>?_⟩;have s:=k a;have t:=m a;simp only[List.map_cons,List.sum_cons];omega
  obtain⟨c,q⟩:=f vs h7;refine⟨1+c,λa=>?_⟩
  cases a with
  |zero=>exact zL _
  |succ a=>
   have:=q a;rw[h1,gP h3 h7];omega
def pE (w:World) (S:Nat->Prop) (D:Nat) (e:Ending) (w':World):Prop:=
 ∃(kind n:Int) (aD:OA) (ln lc:Nat) (aao:OA) (an ac H:Nat),e=.returned (.agg (ak kind n (J aD ln lc) (J aao an ac)))/\Below (E (U w)) w w'/\af (λb=>S b\/E (U w)<=b) (Gd D) H w' (ak kind n (J aD ln lc) (J aao an ac)).toList
def uJ (D h:Nat):Prop:=∀{w:World} {S:Nat->Prop} {kind n:Int} {aD:OA} {ln lc:Nat} {aao:OA} {an ac:Nat} (by':Int),af S (Gd D) h w (ak kind n (J aD ln lc) (J aao an ac)).toList->Calls Tryz.prog 90 #[.agg (ak kind n (J aD ln lc) (J aao an ac)),vN by'] w (pE w S D)
structure yu (w:World) (t:Array Value) (kind n:Int) (wr:World) (lo:OA) (lc:Nat) (ls:List Int):Prop where
 below:Below (E (U w)) w wr
 pb:bA wr (E (U w)) t
 zb:bA wr (E (U w)+1) eJ
 ob:bA wr (E (U w)+2) (ak kind n (J lo (O ls) lc) (J I 0 0))
 row:wr.ownsRow (E (U w)+3) 3 1 (J lo (O ls) lc) (O ls) (aN ls)
theorem yu.run {t:Array Value} (q:yu w t kind n wr lo lc ls) (r:Int) (B:O ls<=30000) (k:TypeId) (u:ad=E (U wr)):
 ∃f w',(Builtin.append_ #[38,38] k #[J lo (O ls) lc,J (aS ad) 1 1]).run Tryz.prog (wr.alloc (Ob #[vN r] 3))=.ok f w'/\∃b c,f=J b (O ls+1) c/\bA w' (E (U w)+2) (ak kind n (J lo (O ls) lc) (J I 0 0))/\yu w t kind n (w'.setCell ⟨E (U w)+2,2,I⟩ (J b (O ls+1) c)) b c (ls++[r]):=by
 have C:=q.ob.lt
 have one:∀i∈(#[Value.int .i64 r]:Array Value).toList,i.oneCell'=true:=by
  intro i v;obtain rfl:i=vN r:=sU v;rfl
 obtain⟨f,w',x,d⟩:=fj (W:=wr) Tryz.underlying38 rf Q dC q.row oM #[vN r] rfl one (by unfold maxLen;omega) oM k u;obtain⟨b,c,rfl⟩:=d.shape;have l:∀a,a<E (U w)+3->w'.heap[a]? =wr.heap[a]? :=λa m=>(d.grown.block a (by simp;omega) (λe=>oH (q.row.lt a e.symm).1)).trans (Below.heap_alloc _ _ _ oM);have o:bA w' (E (U w)+2) (ak kind n (J lo (O ls) lc) (J I 0 0)):=(l _ oM).trans q.ob;refine⟨_,w',x,b,c,Q,o,?_⟩;have j:∀a,a<E (U w)+3->a≠E (U w)+2->(w'.setCell ⟨E (U w)+2,2,I⟩ (J b (O ls+1) c)).heap[a]? =wr.heap[a]? :=λa m y=>(Below.heap_setCell _ ⟨E (U w)+2,2,I⟩ _ _ y).trans (l a m);have p:=d.row;have z:E (U wr)<=E (U w'):=lT sQ d.grown.size;refine⟨q.below.trans ⟨d.grown.os,d.grown.tape,d.grown.output,sU z,λa s=>j a oM oM⟩,(j _ oM oM).trans q.pb,(j _ oM oM).trans q.zb,?_,?_⟩
 ·have:=bA.set o 2 (J b (O ls+1) c);simpa using this
 ·have e:aN (ls++[r])=aN ls++[vN r]:=by simp[aN]
  rw[e];have A:O (ls++[r])=O ls+1:=sQ;rw[A];exact ah p (λa s _=>Below.heap_setCell _ ⟨E (U w)+2,2,I⟩ _ _ (λe=>by have:=(p.lt a s).1;simp at e;omega))
structure uv (w W1:World) (D:Nat) (S:Nat->Prop) (kind n:Int) (wr:World) (lo:OA) (lc:Nat) (ls:List Int) (kv:Value) (vs:VV):Prop where
 below:Below (E (U w)) w wr
 zb:bA wr (E (U w)+1) eJ
 ob:bA wr (E (U w)+2) (ak kind n (J lo (O ls) lc) kv)
 lv:ro wr (λb=>E (U w)+3<=b/\b<E (U W1)) 1 (J lo (O ls) lc) (O ls) (aN ls)
 ty:∃X,lj W1 (E (U w)+2) (λb=>S b/\b<E (U w)) D wr kv vs X
 l1:E (U w)+3<=E (U W1)
section
variable{w W1 wr w':World} {D:Nat} {S:Nat->Prop} {kind n:Int} {lo:OA} {lc:Nat} {ls:List Int} {kv:Value} {vs:VV}
theorem uv.size (q:uv w W1 D S kind n wr lo lc ls kv vs):E (U W1)<=E (U wr):=by
 obtain⟨b,a⟩:=q.ty;exact a.size
theorem uv.step (q:uv w W1 D S kind n wr lo lc ls kv vs) (a:Below (E (U wr)) wr w'):uv w W1 D S kind n w' lo lc ls kv vs:=by
 have e:=q.size;have f:=q.l1;obtain⟨b,c⟩:=q.ty;exact⟨q.below.trans (a.mono q.below.size),(a.block _ oM).trans q.zb,(a.block _ oM).trans q.ob,q.lv.frame (λd h _=>a.block d oM) a.size,⟨b,c.step (Kp.al a)⟩,q.l1⟩
theorem uv.run (q:uv w W1 D S kind n wr lo lc ls kv vs) {e k:Int} {l:OA} {m o:Nat} {r:OA} {s t:Nat} {H W0:Nat} (F:∀b,kv.ownBlock=some b->b<W0) (G:E (U W1)<=W0) (x:af (λb=>(S b/\b<E (U w))\/W0<=b) (Gd D) H wr (ak e k (J l m o) (J r s t)).toList) (K:O vs<=30000) (y:TypeId) (L:ad=E (U wr)):
 ∃f w',(Builtin.append_ #[39,39] y #[kv,J (aS ad) 1 1]).run Tryz.prog (wr.alloc (Ob (ak e k (J l m o) (J r s t)) 41))=.ok f w'/\∃a c,f=J a (O vs+1) c/\bA w' (E (U w)+2) (ak kind n (J lo (O ls) lc) kv)/\uv w W1 D S kind n (w'.setCell ⟨E (U w)+2,3,I⟩ (J a (O vs+1) c)) lo lc ls (J a (O vs+1) c) (vs++[(ak e k (J l m o) (J r s t)).toList]):=by
 have V:=q.size;have W:=q.l1;obtain⟨M,z⟩:=q.ty;obtain⟨N,P⟩:=af.fin _ _ x;obtain⟨f,w',R,a,c,u,T,e,i⟩:=z.run F G x P K y L;have A:∀b,b<E (U W1)->b<E (U wr)/\kv.ownBlock≠some b:=λb d=>⟨oM,λu=>oH (z.row.lt b u).1⟩;have j:∀b,b<E (U W1)->w'.heap[b]? =wr.heap[b]? :=λb d=>e b (A b d).1 (A b d).2;have B:bA w' (E (U w)+2) (ak kind n (J lo (O ls) lc) kv):=(j _ oM).trans q.ob;refine⟨f,w',R,a,c,u,B,?_⟩;have C:E (U wr)<=E (U w'):=i.size;have v:∀b,b≠E (U w)+2->(w'.setCell ⟨E (U w)+2,3,I⟩ (J a (O vs+1) c)).heap[b]? =w'.heap[b]? :=λb d=>Below.heap_setCell _ ⟨E (U w)+2,3,I⟩ _ _ d;refine⟨q.below.trans ⟨i.os,i.tape,i.output,sU C,λb d=>(v b oM).trans (j b oM)⟩,(v _ oM).trans ((j _ oM).trans q.zb),?_,q.lv.frame (λb h _=>(v b oM).trans (j b oM)) (sU C),⟨M+N,T.step ?_⟩,q.l1⟩
 ·have:=bA.set B 3 (J a (O vs+1) c);simpa using this
 ·exact(Kp.refl _ _ _).setCell (p:=⟨E (U w)+2,3,I⟩) (.inr Q) _
end
theorem uI {h:Nat} (aB:uJ D h):uJ D (h+1):=by
 intro w S kind n T bI lc V bJ ac aC aD
 have aE:Hid (uJ D h):=@aB;clear aB;obtain⟨ls,e,aj,al,aF,aG,aH,ae⟩:=aD.parts;obtain rfl:=al.len;obtain rfl:=aj.len
 have a5:Hid (∀b,b<O e->∃g,V=some ⟨g,0,I⟩/\g<E (U w)/\∃i j k l m o al1 q,e[b]? =some (ak i j (J k l m) (J o al1 q)).toList/\∀s,s<4->w.cell? ⟨g,b*4+s,I⟩=(ak i j (J k l m) (J o al1 q))[s]?):=by
  intro b r;obtain⟨g,ao,L,hS,G,z⟩:=al.nth (λA W=>af.four _ _ (ae A W)) r;obtain⟨rfl,rfl⟩:V=some ⟨g,0,I⟩/\ac=ao:=sU L;obtain⟨i,j,k,l,m,o,al1,q,aI⟩:=af.cells _ (ae _ (List.getElem_mem r));refine⟨g,Q,G,i,j,k,l,m,o,al1,q,by rw[gG r,aI],λs ap=>?_⟩;rw[z s ap,aI];simp
 have a6:Hid (∀b,b<O ls->∃g X,T=some ⟨g,0,I⟩/\g<E (U w)/\w.cell? ⟨g,b,I⟩=some (vN X)):=by
  intro b r;obtain⟨a7,ao,L,aJ,ar⟩:=aj;obtain⟨g,aK,hS,G,z⟩:=ar oM;obtain⟨rfl,-⟩:T=a7/\lc=ao:=sU L;refine⟨g,ls[b],aK,G,?_⟩;rw[z b oM];unfold aN;rw[List.getElem?_map,gG r];rfl
 have a8:Hid (∀(w':World),Below (E (U w)) w w'->∀A∈e,∀{i j:Int} {k:OA} {l m:Nat} {o:OA} {al1 q:Nat},A=(ak i j (J k l m) (J o al1 q)).toList->Calls Tryz.prog 90 #[.agg (ak i j (J k l m) (J o al1 q)),vN aC] w' (pE w' (λa=>S a/\a<E (U w)) D)):=by
  intro w' d A W i j k l m o al1 q L;subst L;have a9:af (λa=>S a/\a<E (U w)) (Gd D) h w _:=af.weaken (λa d aJ=>⟨d,aJ⟩) _ _ (ae _ W);exact aE.out aC (af.frame (aq.below d) d.size _ _ a9)
 have a':Hid (Gd D kind n (O ls) (O e)):=aH;have bK:O e<=30000:=aG;have bL:O ls<=30000:=aF;obtain⟨aL,aM,aO,aP⟩:=mZ w (Ob (ak kind n (J T (O ls) lc) (J V (O e) ac)) 41) (Ob eJ 41) (Ob (ak kind n (J I 0 0) (J I 0 0)) 41);have aQ:yu w (ak kind n (J T (O ls) lc) (J V (O e) ac)) kind n _ I 0 []:=⟨aL,aM,aO,aP,World.ownsRow_nil _ _ _ _⟩;clear aL aM aO aP aj al aF aG aH ae aD aE;go_enter Tryz.func90,Tryz.ntmps90
 go_wp2_with fail;go_loopg [7,18] (O ls) (λau _ av wr=>∃(b:Nat) (lo:OA) (y:Nat) (f:List Int),au=O ls - b/\av=vN b/\b<=O ls/\O f=b/\yu w (ak kind n (J T (O ls) lc) (J V (O e) ac)) kind n wr lo y f)
 case atStart=>exact⟨0,I,0,[],Q,Q,zL _,Q,aQ⟩
 case round=>
  clear aQ;obtain⟨b,lo,y,f,Y,rfl,aR,aT,c⟩:=hrel;have Z:Hid (gk=O ls - b):=Y;have H:Hid (O f=b):=aT;have aw:O f<=30000:=oM;clear Y aT;have ba:=c.pb.cell;have bb:=c.pb.fz;have bc:=c.pb.lt;have M:=c.ob.cell;have N:=c.ob.fz;have P:=c.ob.lt;by_cases r:b<O ls
  ·obtain⟨g,X,rfl,G,z⟩:=a6.out b r;have R:(b:Int)<(O ls:Int):=oM;have aU:wr.cell? ⟨g,b,I⟩=some (vN X):=(c.below.cell (p:=⟨g,b,I⟩) G).trans z;have bd:g<E (U wr):=oH c.below.size;clear z;by_cases ar:X>0
   ·go_wp2_with (at_builtin;refine bG 38 (v:=J lo (O f) y) (xv:=J (aS (E (U wr))) 1 1) rQ rQ rQ rQ (c.run _ aw _ Q) ?_;rintro aV aW ⟨ax,ay,rfl,t,aa⟩;have bf:=t.cell;have bh:=t.fz;have bi:=t.lt)
    go_roundg (O ls - (b+1))
    case measure=>rw[Z.out];omega
    case rel=>exact⟨b+1,ax,ay,_,Q,by go_num,r,by simp[H.out],aa⟩
   ·have bM:decide (X>0)=false:=sU ar;go_wp2_with (at_builtin;refine bG 38 (v:=J lo (O f) y) (xv:=J (aS (E (U wr))) 1 1) rQ rQ rQ rQ (c.run _ aw _ Q) ?_;rintro aV aW ⟨ax,ay,rfl,t,aa⟩;have bf:=t.cell;have bh:=t.fz;have bi:=t.lt)
    go_roundg (O ls - (b+1))
    case measure=>rw[Z.out];omega
    case rel=>exact⟨b+1,ax,ay,_,Q,by go_num,r,by simp[H.out],aa⟩
  ·have R:¬(b:Int)<(O ls:Int):=oM;have aX:decide ((b:Int)<(O ls:Int))=false:=sU R;have bj:Hid (O f=O ls):=by show _=_;have:=H.out;omega
   clear Z H;rename World=>W1
   have aY:uv w W1 D S kind n W1 lo y f (J I 0 0) []:=⟨c.below,c.zb,c.ob,ro.bH c.row (λa d=>⟨(c.row.lt a d).1,(c.row.lt a d).2⟩),⟨0,lj.nil W1 W1 (lR _) oM (λa d=>⟨oH d.2,oH d.2⟩)⟩,oM⟩;go_wp2_with fail;go_loopg [9,37] (O e) (λau _ av bk=>∃(b:Nat) (kv:Value) (vs:VV),au=O e - b/\av=vN b/\b<=O e/\O vs=b/\uv w W1 D S kind n bk lo y f kv vs)
   case atStart=>exact⟨0,J I 0 0,[],Q,Q,zL _,Q,aY⟩
   case round=>
    clear aY ba bb bc M N P r R aX c aR;obtain⟨b,kv,vs,Y,rfl,aR,aZ,c⟩:=hrel;have Z:Hid (gk=O e - b):=Y;have H:Hid (O vs=b):=aZ;have bl:O vs<=30000:=oM;clear Y aZ
    obtain⟨B,C,rfl⟩:∃B C,kv=J B (O vs) C:=by
     obtain⟨a0,K⟩:=c.ty;exact K.shape
    have M:=c.ob.cell;have N:=c.ob.fz;have P:=c.ob.lt;have bm:=c.zb.cell;have bn:=c.zb.fz;have bo:=c.zb.lt;have bN:E (U w)+2≠E (U w)+1:=oM;have bO:E (U w)+1≠E (U w)+2:=oM;by_cases r:b<O e
    ·obtain⟨g,rfl,G,i,j,k,l,m,o,al1,q,a1,z⟩:=a5.out b r;have R:(b:Int)<(O e:Int):=oM;have bP:=c.below.size;have bd:g<E (U wr):=oM;have ab:∀s,s<4->wr.cell? ⟨g,b*4+s,I⟩=(ak i j (J k l m) (J o al1 q))[s]? :=λs ap=>(c.below.cell (p:=⟨g,b*4+s,I⟩) G).trans (z s ap);have aU:=ab 0 dC;have bR:=ab 1 dC;have aK:=ab 2 dC;have bS:=ab 3 dC;clear ab z;simp only[Nat.add_zero] at aU;have a2:Below (E (U wr)) wr (wr.alloc (Ob (ak i j (J k l m) (J o al1 q)) 41)).drew:=((Below.refl _ _).alloc (lR _) _).drew;have az:=c.step a2;have bp:Hid (e[b]? =some (ak i j (J k l m) (J o al1 q)).toList):=a1
     have bq:∀a,(Value.slice B (O vs) C).ownBlock=some a->a<E (U (wr.alloc (Ob (ak i j (J k l m) (J o al1 q)) 41)).drew):=λa d=>by
      obtain⟨a0,K⟩:=az.ty;exact(K.row.lt a d).2
     have br:=az.size;clear a1;go_wp2_with fail;go_region_law (first|(refine bg 39 (v:=J B (O vs) C) (xv:=J (aS (E (U bs))) 1 1) rQ rQ rQ rQ (ag.run bq br bt bl _ Q) ?_;rintro aV aW ⟨bu,bv,rfl,t,aa⟩;clear M N P;have M:=t.cell;have N:=t.fz;have P:=t.lt)|(go_simp;refine(a8.out _ (c.below.trans (a2.mono c.below.size)) _ (mG bp.out) Q).mono ?_;rintro L bs ⟨bT,bU,bV,bW,bX,bY,bZ,b0,b1,rfl,bw,bt⟩;have ag:=az.step bw;clear M N P bm bn bo;have M:=ag.ob.cell;have N:=ag.ob.fz;have P:=ag.ob.lt))
     all_goals
      go_wp2_with fail;go_roundg (O e - (b+1))
      case measure=>rw[Z.out];omega
      case rel=>exact⟨b+1,J bu (O vs+1) bv,_,Q,by go_num,r,by simp[H.out],aa⟩
    ·have R:¬(b:Int)<(O e:Int):=oM;have aX:decide ((b:Int)<(O e:Int))=false:=sU R;go_wp2_with fail;go_light;have bx:b=O e:=oM;have bz:O vs=O e:=by rw[H.out,bx]
     obtain⟨a0,K⟩:=c.ty;obtain⟨a3,bB⟩:=K.all;have b2:=c.l1;obtain⟨u,F⟩:∃u,u=bQ wr (E (U w)+1) (vN kind) (vN n) (J lo (O f) y) (J B (O vs) C):=⟨_,Q⟩
     have a4:∀a,a≠E (U w)+1->u.heap[a]? =wr.heap[a]? :=λa ah=>by
      rw[F];exact(Below.heap_setCell _ ⟨E (U w)+1,3,I⟩ _ _ ah).trans ((Below.heap_setCell _ ⟨E (U w)+1,2,I⟩ _ _ ah).trans ((Below.heap_setCell _ ⟨E (U w)+1,1,I⟩ _ _ ah).trans (Below.heap_setCell _ ⟨E (U w)+1,0,I⟩ _ _ ah)))
     have ai:E (U wr)<=E (U u):=by rw[F];simp
     have bC:bA u (E (U w)+1) (ak kind n (J lo (O f) y) (J B (O vs) C)):=by rw[F];exact bA.bQ c.zb _ _ _ _
     have bD:Below (E (U w)) w u:=by
      refine c.below.trans ⟨by rw[F];rfl,by rw[F];rfl,by rw[F];rfl,ai,λa d=>a4 a oM⟩
     suffices hh:bodyPost Tryz.prog Tryz.f90 (pE w S D) .ret _ u by rw[F] at hh;exact hh
     clear F;have aA:aq (λa=>(S a/\a<E (U w))\/E (U w)+3<=a) wr u:=λa d _=>a4 a (by rcases d with d|d<;>omega);have bE:∀A∈vs,af (λa=>S a\/E (U w)<=a) (Gd D) a3 u A:=λA W=>af.weaken (λa d _=>d.imp (λx=>x.1) (λx=>by omega)) _ _ (af.frame aA ai _ _ (af.weaken (λa d _=>d.1.imp (λx=>x) (λx=>by omega)) _ _ (bB A W)));have bF:ro u (λa=>S a\/E (U w)<=a) 4 (J B (O vs) C) (O vs) vs.flatten:=((ro.bH K.row (λa d=>(.inr (oH (K.row.lt a d).1)):∀a,_->(S a/\a<E (U w))\/E (U w)+3<=a)).frame aA ai).weaken (λa d _=>d.imp (λx=>x.1) (λx=>by omega));have bH:ro u (λa=>S a\/E (U w)<=a) 1 (J lo (O f) y) (O f) (aN f):=((c.lv.weaken (λa d _=>(.inr oM:(S a/\a<E (U w))\/E (U w)+3<=a))).frame aA ai).weaken (λa d _=>d.imp (λx=>x.1) (λx=>by omega));exact bodyPost_ret (dX Tryz.results90 Q bC) Q ⟨kind,n,lo,O f,y,B,O vs,C,a3+1,Q,bD,kR bH bF aw oM (by rw[bj.out,bz];exact a'.out) bE⟩
theorem shift (D:Nat):∀h:Nat,uJ D h
 |0=>λc a=>absurd a (λb=>b)
 |h+1=>uI (shift D h)
end
end Go.Proofs.YtdghkacbpebcoaaGreat
