import Derived.Test.YtcnnibahjmekdaaGreatS28
namespace Go.Proofs.YtcnnibahjmekdaaGreat
open Go.RowKit
open Value renaming slice→J
open List renaming length→O
open Option renaming none→I
open World renaming heap→U
open _root_.Array renaming size→E
open Obj renaming cells→Ob
set_option linter.all false
set_option maxRecDepth 100000
set_option maxHeartbeats 0
theorem tZ {h:Nat} (aj:bZ h) {w:World} {e:Nat} {K:CK} {M:MK} {T:Nat} {s:Nat->Prop} {S N B0:Nat} {how next one fk fa:Int} (j:Cx w e K M T s S N) (P:bP w e K how next one fk fa) (aJ:B0<=e) {pos r m:Int} {name:ByteArray} {ko:OA} {kc nl:Nat} {ks:VV} (t:GN h B0 w ko kc ks nl) {kind n:Int} (ak:(kind=4->0<=n/\n<(O M.ds:Int))/\kind≠5/\kind≠6/\kind≠7) (f:Nat) (ao:Int) (hl:f<=6100) (bg:¬nl<O ks) (bh:((O ks:Int) - (nl:Int) !=ao)=false) (bi:((nl:Int) !=0)=false) (bj:((nl:Int)==0)=true):
 Calls Tryz.prog 90 #[.pointer (some ⟨e,0,I⟩),.agg (ae 18 pos r m name (J ko (O ks) kc)),.agg (ai kind n (J I 0 0) (J I 0 0)),.int .i64 f,.int .i64 ao] w (bS w e K how one s (O M.ds) ((1+(ks.map (aG h w)).sum)*N)):=by
 have aK:Hid (bZ h):=@aj;clear aj;have bk:=t.km;have bl:=t.uF;have bm:=t.tK;have aL:=j.z1;have aM:=P.lt;have V:Hid (Cx w e K M T (λb=>s b/\b<E (U w)) S N):=j.low;have ap:Hid (bP w e K how next one fk fa):=P;have u:Hid (GN h B0 w ko kc ks nl):=t;obtain⟨W,aq,ar,au⟩:=np w (Ob (ae 18 pos r m name (J ko (O ks) kc)) 46) (Ob (ai kind n (J I 0 0) (J I 0 0)) 39) (Ob dF 39);have av:GM w e K how one (ae 18 pos r m name (J ko (O ks) kc)) kind n (((w.alloc (Ob (ae 18 pos r m name (J ko (O ks) kc)) 46)).alloc (Ob (ai kind n (J I 0 0) (J I 0 0)) 39)).alloc (Ob dF 39)) I 0 [] next fk fa:=⟨Kp.aq W,P.below W,aM,aq,ar,au,World.ownsRow_nil _ _ _ _⟩;clear W aq ar au j P t;have aN:Hid ((kind=4->0<=n/\n<(O M.ds:Int))/\kind≠5/\kind≠6/\kind≠7):=ak;clear ak;go_enter Tryz.func90,Tryz.ntmps90
 go_wp2_with fail;go_loopg [11] (O ks) (λX Y wr=>∃c:Nat,X=O ks - c/\Y=vN c/\c<=nl/\GM w e K how one (ae 18 pos r m name (J ko (O ks) kc)) kind n wr I 0 [] next fk fa)
 case atStart=>exact⟨0,Q,Q,zL _,av⟩
 case round=>
  clear av;obtain⟨c,aw,rfl,aO,a⟩:=hrel;have aP:Hid (gk=O ks - c):=aw;clear aw;have x:=λo=>cell_of_row wr _ o _ 46 (0,0) a.nb;have y:E (U w)<E (U wr):=(gE a.nb).1;have z:=a.tb.cell;have A:=a.tb.fz;have B:=a.tb.lt;have C:=a.zb.cell;have D:=a.zb.fz;have F:=a.zb.lt;by_cases Z:c<nl
  ·obtain⟨bn,bo,bp,bq,br,bs,bt,bu,G,-,aR,bv,ax,aT,-⟩:=u.out.eH c oM;subst aR;obtain rfl:=aT Z;have H:(c:Int)<(O ks:Int):=oM;have bw:wr.cell? ⟨G,c*11,I⟩=some (vN 19):=(a.k.cell (p:=⟨G,c*11,I⟩) (by show G<_;omega) (by show G≠e;omega)).trans (ax 0 dC);have bx:G<E (U wr):=oM;clear ax;go_wp2_with fail;go_roundg (O ks - (c+1))
   case measure=>rw[aP.out];omega
   case rel=>exact⟨c+1,Q,by go_num,Z,a⟩
  ·obtain rfl:nl=c:=oM;clear Z aO;have H:¬(nl:Int)<(O ks:Int):=oM;have aU:decide ((nl:Int)<(O ks:Int))=false:=sU H;go_wp2_with fail;go_loopg [12] f (λX Y wr=>∃(d:Nat) (aa:OA) (ab:Nat) (k:List Int) (next fk fa:Int),X=f - d/\Y=vN d/\d<=f/\O k=d/\GM w e K how one (ae 18 pos r m name (J ko (O ks) kc)) kind n wr aa ab k next fk fa)
   case atStart=>exact⟨0,I,0,[],next,fk,fa,Q,Q,zL _,Q,a⟩
   case round=>
    clear a x y z A B C D F;obtain⟨d,aa,ab,k,next,fk,fa,ay,rfl,bz,az,a⟩:=hrel;have aV:Hid (gk=f - d):=ay;have aB:Hid (O k=d):=az;have aW:O k<=30000:=oM;clear ay az;have x:=λo=>cell_of_row wr _ o _ 46 (0,0) a.nb;have y:E (U w)<E (U wr):=(gE a.nb).1;have z:=a.tb.cell;have A:=a.tb.fz;have B:=a.tb.lt;have C:=a.zb.cell;have D:=a.zb.fz;have F:=a.zb.lt;by_cases aX:d<f
    ·have H:(d:Int)<(f:Int):=oM;go_wp2_with fail;go_region_law (first|(refine bf 22 (v:=J aa (O k) ab) (xv:=J (aS (E (U ac))) 1 1) rQ rQ rQ rQ (i.run aC aW _ Q) ?_;rintro bA bB ⟨aY,aZ,rfl,ad,a0⟩;have bC:=ad.cell;have bD:=ad.fz;have bE:=ad.lt)|(go_simp;refine(fG a.drew.c ((V.out.step ap.out a.k).step a.c (Kp.refl _ _ _).drew).lv V.out.lf _ _).mono ?_;rintro a1 ac ⟨aC,a2,a3,a4,rfl,a5,a6,-⟩;have i:=a.drew.step a6 a5;have x:=λo=>cell_of_row ac _ o _ 46 (0,0) i.nb;have y:E (U w)<E (U ac):=(gE i.nb).1;have z:=i.tb.cell;have A:=i.tb.fz;have B:=i.tb.lt;have C:=i.zb.cell;have D:=i.zb.fz;have F:=i.zb.lt))
     all_goals
      go_wp2_with fail;go_roundg (f - (d+1))
      case measure=>rw[aV.out];omega
      case rel=>exact⟨d+1,aY,aZ,k++[aC],a2,a3,a4,Q,by go_num,aX,by simp[aB.out],sU a0⟩
    ·have H:¬(d:Int)<(f:Int):=oM;have aU:decide ((d:Int)<(f:Int))=false:=sU H;have bF:(nl:Int)<=(O ks:Int):=oM;have bG:(O ks:Int)<=(kc:Int):=oM;have a7:O k<=6100:=oH aB.out;have R:al (λb=>b<B0) w wr:=λb L hl=>a.k.block b hl oM;have a8:Hid (∀af ag,O ks - nl=0->cZ B0 wr (J af (O ks - nl) ag) (ks.drop nl)):=λaf ag a9=>(u.out.u6 af ag a9).frame R oM;have a':Hid (∀q∈ks.drop nl,isNode (λb=>b<B0) True h wr q/\cH (aA q)):=λq j=>⟨isNode.frame R _ _ (u.out.node q (List.mem_of_mem_drop j)),u.out.ty q j⟩;have ba:Hid (((ks.drop nl).map (aG h wr)).sum=((ks.drop nl).map (aG h w)).sum):=congrArg List.sum (List.map_congr_left (λq j=>aQ R _ _ (u.out.node q (List.mem_of_mem_drop j)) h));have aD:Hid (Cx wr e K M T (λb=>s b/\b<E (U w)) S N):=V.out.step ap.out a.k;clear R;go_wp2_with fail
     all_goals
      refine(fJ @aK.out aD.out a.c aJ (a8.out _ _ oM) a'.out).mono ?_;rintro a1 aE ⟨bH,bI,bb,bJ,bK,bL,rfl,aF,aH,aI,ah⟩;rw[ba.out] at ah;have l:=a.step aI aH;have bc:O bb<=20000:=by rw[aF];simp;omega
      have bd:=ah.mono (S1:=λb=>s b/\b<E (U w)) (λb L=>L.1) (λb L=>⟨aD.out.s0 b L,oI L.2 a.k.size⟩);clear x y z A B C D F ah aF;have x:=λo=>cell_of_row aE _ o _ 46 (0,0) l.nb;have y:E (U w)<E (U aE):=(gE l.nb).1;have z:=l.tb.cell;have A:=l.tb.fz;have B:=l.tb.lt;have C:=l.zb.cell;have D:=l.zb.fz;have F:=l.zb.lt;go_wp2_with fail;go_light;exact iE aN.out aL a a7 aH aI bc bd _ Q Q
theorem rJ {h:Nat} (u:bZ h) {w:World} {c:Nat} {K:CK} {M:MK} {T:Nat} {k:Nat->Prop} {v l B0:Nat} {how next one fk fa:Int} (o:Cx w c K M T k v l) (j:bP w c K how next one fk fa) (ap:B0<=c) {pos e m:Int} {name:ByteArray} {ko:OA} {kc nl:Nat} {ks:VV} (f:GN h B0 w ko kc ks nl) {kind n:Int} (x:(kind=4->0<=n/\n<(O M.ds:Int))/\kind≠5/\kind≠6/\kind≠7) (q:Nat) (L:Int) (hl:q<=6100) (aq:¬nl<O ks) (ar:((nl:Int) !=0)=true) (au:((nl:Int) !=(q:Int))=true):
 Calls Tryz.prog 90 #[.pointer (some ⟨c,0,I⟩),.agg (ae 18 pos e m name (J ko (O ks) kc)),.agg (ai kind n (J I 0 0) (J I 0 0)),.int .i64 q,.int .i64 L] w (bS w c K how one k (O M.ds) ((1+(ks.map (aG h w)).sum)*l)):=by
 have av:Hid (bZ h):=@u;clear u;have aw:=f.km;have ax:=f.uF;have ay:=f.tK;have N:=o.z1;have P:=j.lt;have az:Hid (Cx w c K M T (λy=>k y/\y<E (U w)) v l):=o.low;have aA:Hid (bP w c K how next one fk fa):=j;have R:Hid (GN h B0 w ko kc ks nl):=f;obtain⟨r,z,A,B⟩:=np w (Ob (ae 18 pos e m name (J ko (O ks) kc)) 46) (Ob (ai kind n (J I 0 0) (J I 0 0)) 39) (Ob dF 39);have C:GM w c K how one (ae 18 pos e m name (J ko (O ks) kc)) kind n (((w.alloc (Ob (ae 18 pos e m name (J ko (O ks) kc)) 46)).alloc (Ob (ai kind n (J I 0 0) (J I 0 0)) 39)).alloc (Ob dF 39)) I 0 [] next fk fa:=⟨Kp.aq r,j.below r,P,z,A,B,World.ownsRow_nil _ _ _ _⟩;clear r z A B o j f;have S:Hid ((kind=4->0<=n/\n<(O M.ds:Int))/\kind≠5/\kind≠6/\kind≠7):=x;clear x;go_enter Tryz.func90,Tryz.ntmps90
 go_wp2_with fail;go_loopg [11] (O ks) (λV W wr=>∃a:Nat,V=O ks - a/\W=vN a/\a<=nl/\GM w c K how one (ae 18 pos e m name (J ko (O ks) kc)) kind n wr I 0 [] next fk fa)
 case atStart=>exact⟨0,Q,Q,zL _,C⟩
 case round=>
  clear C;obtain⟨a,D,rfl,X,b⟩:=hrel;have Y:Hid (gk=O ks - a):=D;clear D;have Z:=λs=>cell_of_row wr _ s _ 46 (0,0) b.nb;have aa:E (U w)<E (U wr):=(gE b.nb).1;have ab:=b.tb.cell;have ac:=b.tb.fz;have ad:=b.tb.lt;have af:=b.zb.cell;have ag:=b.zb.fz;have ah:=b.zb.lt;by_cases t:a<nl
  ·obtain⟨aB,aC,aD,aE,aF,aH,aI,aJ,i,-,aj,aK,F,ak,-⟩:=R.out.eH a oM;subst aj;obtain rfl:=ak t;have G:(a:Int)<(O ks:Int):=oM;have aL:wr.cell? ⟨i,a*11,I⟩=some (vN 19):=(b.k.cell (p:=⟨i,a*11,I⟩) (by show i<_;omega) (by show i≠c;omega)).trans (F 0 dC);have aM:i<E (U wr):=oM;clear F;go_wp2_with fail;go_roundg (O ks - (a+1))
   case measure=>rw[Y.out];omega
   case rel=>exact⟨a+1,Q,by go_num,t,b⟩
  ·obtain rfl:nl=a:=oM;clear t X;have G:¬(nl:Int)<(O ks:Int):=oM;have aN:decide ((nl:Int)<(O ks:Int))=false:=sU G;go_wp2_with (go_at_call 89;refine(ft b.c _ _).mono ?_;rintro aO H ⟨aP,aQ,rfl,al,ao,-⟩;have d:=b.step ao al;have Z:=λs=>cell_of_row H _ s _ 46 (0,0) d.nb;have aa:E (U w)<E (U H):=(gE d.nb).1;have ab:=d.tb.cell;have ac:=d.tb.fz;have ad:=d.tb.lt;have af:=d.zb.cell;have ag:=d.zb.fz;have ah:=d.zb.lt)
   all_goals
    go_light;exact eZ S.out N d _ Q Q
theorem rI {h:Nat} (t:bZ h) {w:World} {c:Nat} {K:CK} {M:MK} {T:Nat} {k:Nat->Prop} {u l B0:Nat} {how next one fk fa:Int} (o:Cx w c K M T k u l) (j:bP w c K how next one fk fa) (ap:B0<=c) {pos e m:Int} {name:ByteArray} {ko:OA} {kc nl:Nat} {ks:VV} (f:GN h B0 w ko kc ks nl) {kind n:Int} (v:(kind=4->0<=n/\n<(O M.ds:Int))/\kind≠5/\kind≠6/\kind≠7) (x:Nat) (y:Int) (hl:x<=6100) (aq:¬nl<O ks) (ar:((nl:Int) !=0)=false) (au:((O ks:Int) - (nl:Int) !=y)=true):
 Calls Tryz.prog 90 #[.pointer (some ⟨c,0,I⟩),.agg (ae 18 pos e m name (J ko (O ks) kc)),.agg (ai kind n (J I 0 0) (J I 0 0)),.int .i64 x,.int .i64 y] w (bS w c K how one k (O M.ds) ((1+(ks.map (aG h w)).sum)*l)):=by
 have av:Hid (bZ h):=@t;clear t;have aw:=f.km;have ax:=f.uF;have ay:=f.tK;have N:=o.z1;have P:=j.lt;have az:Hid (Cx w c K M T (λz=>k z/\z<E (U w)) u l):=o.low;have aA:Hid (bP w c K how next one fk fa):=j;have R:Hid (GN h B0 w ko kc ks nl):=f;obtain⟨q,A,B,C⟩:=np w (Ob (ae 18 pos e m name (J ko (O ks) kc)) 46) (Ob (ai kind n (J I 0 0) (J I 0 0)) 39) (Ob dF 39);have D:GM w c K how one (ae 18 pos e m name (J ko (O ks) kc)) kind n (((w.alloc (Ob (ae 18 pos e m name (J ko (O ks) kc)) 46)).alloc (Ob (ai kind n (J I 0 0) (J I 0 0)) 39)).alloc (Ob dF 39)) I 0 [] next fk fa:=⟨Kp.aq q,j.below q,P,A,B,C,World.ownsRow_nil _ _ _ _⟩;clear q A B C o j f;have S:Hid ((kind=4->0<=n/\n<(O M.ds:Int))/\kind≠5/\kind≠6/\kind≠7):=v;clear v;go_enter Tryz.func90,Tryz.ntmps90
 go_wp2_with fail;go_loopg [11] (O ks) (λV W wr=>∃a:Nat,V=O ks - a/\W=vN a/\a<=nl/\GM w c K how one (ae 18 pos e m name (J ko (O ks) kc)) kind n wr I 0 [] next fk fa)
 case atStart=>exact⟨0,Q,Q,zL _,D⟩
 case round=>
  clear D;obtain⟨a,F,rfl,X,b⟩:=hrel;have Y:Hid (gk=O ks - a):=F;clear F;have Z:=λr=>cell_of_row wr _ r _ 46 (0,0) b.nb;have aa:E (U w)<E (U wr):=(gE b.nb).1;have ab:=b.tb.cell;have ac:=b.tb.fz;have ad:=b.tb.lt;have af:=b.zb.cell;have ag:=b.zb.fz;have ah:=b.zb.lt;by_cases s:a<nl
  ·obtain⟨aB,aC,aD,aE,aF,aH,aI,aJ,i,-,aj,aK,G,ak,-⟩:=R.out.eH a oM;subst aj;obtain rfl:=ak s;have H:(a:Int)<(O ks:Int):=oM;have aL:wr.cell? ⟨i,a*11,I⟩=some (vN 19):=(b.k.cell (p:=⟨i,a*11,I⟩) (by show i<_;omega) (by show i≠c;omega)).trans (G 0 dC);have aM:i<E (U wr):=oM;clear G;go_wp2_with fail;go_roundg (O ks - (a+1))
   case measure=>rw[Y.out];omega
   case rel=>exact⟨a+1,Q,by go_num,s,b⟩
  ·obtain rfl:nl=a:=oM;clear s X;have H:¬(nl:Int)<(O ks:Int):=oM;have aN:decide ((nl:Int)<(O ks:Int))=false:=sU H;go_wp2_with (go_at_call 89;refine(ft b.c _ _).mono ?_;rintro aO L ⟨aP,aQ,rfl,al,ao,-⟩;have d:=b.step ao al;have Z:=λr=>cell_of_row L _ r _ 46 (0,0) d.nb;have aa:E (U w)<E (U L):=(gE d.nb).1;have ab:=d.tb.cell;have ac:=d.tb.fz;have ad:=d.tb.lt;have af:=d.zb.cell;have ag:=d.zb.fz;have ah:=d.zb.lt)
   all_goals
    go_light;exact eZ S.out N d _ Q Q
section
variable{w:World}
theorem kV {base:Nat} {b:OA} {a:Nat} {ls:List Int} (h:w.ownsRow base 3 1 (J b (O ls) a) (O ls) (aC ls)) {i:Nat} {x:Int} (c:ls[i]? =some x):∃g,b=some ⟨g,0,I⟩/\g<E (U w)/\O ls<=a/\w.cell? ⟨g,i,I⟩=some (vN x):=by
 have d:aC ls=(ls.map (λx=>[Value.int .i64 x])).flatten:=(iF ls).symm;have f:=h;rw[d] at h;obtain⟨g,j,d,k,m,l⟩:=aL h sQ (λx c=>by obtain⟨n,_,rfl⟩:=List.mem_map.1 c;rfl) (i:=i) (x:=[Value.int .i64 x]) (by rw[List.getElem?_map,c];rfl);obtain⟨rfl,rfl⟩:b=some ⟨g,0,I⟩/\a=j:=sU d;refine⟨g,Q,k,?_,sU (l 0 dC)⟩;rcases f.2 with⟨e,o⟩|⟨g',cap,cur,e,_,_,x4,_⟩
 ·simp at e
 ·have:a=cap:=by simpa using(Value.slice.inj e).2.2
  omega
theorem wN {S:Nat->Prop} {D h:Nat} {kind n:Int} {e:OA} {f i:Nat} {j:OA} {k l:Nat} (G:af S (Gd D) h w (ai kind n (J e f i) (J j k l)).toList) (N:6100*aU h w (ai kind n (J e f i) (J j k l)).toList<=17592186044416) (o:Nat) (P:o<=30000):Calls Tryz.prog 76 #[.agg (ai kind n (J e f i) (J j k l)),.int .i64 o] w (ix w):=by
 obtain⟨H,R⟩:=al1 w (Ob (ai kind n (J e f i) (J j k l)) 39);have aj:E (U (w.alloc (Ob (ai kind n (J e f i) (J j k l)) 39)))=E (U w)+1:=sQ
 have q:Hid (∀{s:World},Below (E (U (w.alloc (Ob (ai kind n (J e f i) (J j k l)) 39)))) (w.alloc (Ob (ai kind n (J e f i) (J j k l)) 39)) s->s.heap[E (U w)]? =some (Ob (ai kind n (J e f i) (J j k l)) 39 (0,0))/\Below (E (U w)) w s/\af S (Gd D) h s (ai kind n (J e f i) (J j k l)).toList/\6100*aU h s (ai kind n (J e f i) (J j k l)).toList<=17592186044416):=by
  intro s c;have u:=H.trans (c.mono H.size);exact⟨(c.block _ oM).trans R,u,af.frame (al.below u) u.size _ _ G,by rw[aJ (al.below u) u.size _ _ G];exact N⟩
 clear G N H R aj;go_enter Tryz.func76,Tryz.ntmps76
 go_wp2_with fail;go_loopg [5] o (λv x wr=>∃p:Nat,v=o - p/\x=vN p/\p<=o/\Below (E (U (w.alloc (Ob (ai kind n (J e f i) (J j k l)) 39)))) (w.alloc (Ob (ai kind n (J e f i) (J j k l)) 39)) wr)
 case atStart=>exact⟨0,Q,Q,zL _,Below.refl _ _⟩
 case round=>
  obtain⟨p,y,rfl,aA,c⟩:=hrel;have B:Hid (gk=o - p):=y;clear y;have ak:=λao=>cell_of_row wr _ ao _ 39 (0,0) (q.out c).1;have ap:E (U w)<E (U wr):=(gE (q.out c).1).1;by_cases aq:p<o
  ·have T:(p:Int)<(o:Int):=oM;go_wp2_with (go_at_call 93;refine(nJ _ h (q.out c).2.2.1).mono ?_;rintro ar K ⟨aB,rfl,C⟩)
   all_goals have z:=c.trans (C.mono c.size)
   ·go_ret;exact⟨_,Q,(q.out z).2.1⟩
   ·go_roundg (o - (p+1))
    case measure=>rw[B.out];omega
    case rel=>exact⟨p+1,Q,by go_num,aq,z⟩
  ·have T:¬(p:Int)<(o:Int):=oM;have aD:decide ((p:Int)<(o:Int))=false:=sU T;go_wp2_with (go_at_call 91;refine(mL (λ_ _ _ _ au=>au.1) h (q.out c).2.2.1 (q.out c).2.2.2).mono ?_;rintro ar K ⟨L,t,a,rfl,M,V,C⟩)
   have aE:O a<=17592186044416:=lT V (q.out c).2.2.2;have z:=c.trans (C.mono c.size);obtain⟨r,W⟩:∃r,r=E (U wr):=⟨_,Q⟩;rw[<-W] at M;have d:Hid (K.ownsRow r 3 1 (J L (O a) t) (O a) (aC a)/\Below (E (U w)) w K):=⟨M,(q.out z).2.1⟩;clear M z C V ak ap c B W;go_loopg [7,8,10,24] (O a) (λv _ _ _ x X=>∃b:Nat,v=O a - b/\x=vN b/\b<=O a/\(X.ownsRow r 3 1 (J L (O a) t) (O a) (aC a)/\Below (E (U w)) w X))
   case atStart=>exact⟨0,Q,Q,zL _,d.out⟩
   case round=>
    clear d;obtain⟨b,y,rfl,aF,A⟩:=hrel;have d:Hid ((wr.ownsRow r 3 1 (J L (O a) t) (O a) (aC a)/\Below (E (U w)) w wr)):=A;clear A;have B:Hid (gk=O a - b):=y;clear y;by_cases Y:b<O a
    ·have Z:(b:Int)<(O a:Int):=oM;obtain⟨F,aa⟩:∃F,a[b]? =some F:=⟨_,gG Y⟩;obtain⟨g,rfl,P,aG,av⟩:=kV d.out.1 aa;clear aa;have aH:(b:Int)<=(t:Int):=oM;by_cases aw:F<0
     ·go_wp2_with fail;go_ret;exact⟨_,Q,d.out.2⟩
     ·have aI:decide (F<0)=false:=sU aw;go_wp2_with fail;go_loopg [10,35] b (λv _ x ab=>∃m:Nat,v=b - m/\x=vN m/\m<=b/\(ab.ownsRow r 3 1 (J (aS g) (O a) t) (O a) (aC a)/\Below (E (U w)) w ab))
      case atStart=>exact⟨0,Q,Q,zL _,d.out⟩
      case round=>
       clear d av P;obtain⟨m,ac,rfl,aK,A⟩:=hrel;have d:Hid ((wr.ownsRow r 3 1 (J (aS g) (O a) t) (O a) (aC a)/\Below (E (U w)) w wr)):=A;clear A;have ax:Hid (gk=b - m):=ac;clear ac;by_cases ay:m<b
       ·have ad:(m:Int)<(b:Int):=oM;obtain⟨ae,ag⟩:∃ae,a[m]? =some ae:=⟨_,gG oM⟩;obtain⟨az,ah,aL,_,aM⟩:=kV d.out.1 ag;obtain rfl:g=az:=sU ah;clear ag ah;go_wp2_with fail
        ·go_ret;exact⟨_,Q,d.out.2⟩
        ·go_roundg (b - (m+1))
         case measure=>rw[ax.out];omega
         case rel=>exact⟨m+1,Q,by go_num,ay,d.out⟩
       ·have ad:¬(m:Int)<(b:Int):=oM;have aN:decide ((m:Int)<(b:Int))=false:=sU ad;go_wp2_with fail;go_roundg (O a - (b+1))
        case measure=>rw[B.out];omega
        case rel=>exact⟨b+1,Q,by go_num,Y,d.out⟩
    ·have Z:¬(b:Int)<(O a:Int):=oM;have aO:decide ((b:Int)<(O a:Int))=false:=sU Z;go_wp2_with fail;go_ret;exact⟨_,Q,d.out.2⟩
end
theorem jv {w:World} {b c:Nat} {M:MK} {K:CK} {how next one fk fa:Int} (h:cF w b M) (a:bP w c K how next one fk fa):Calls Tryz.prog 51 #[.pointer (aS b),.pointer (aS c)] w (uy w b M):=by
 have m:=a.cell;have n:=a.lt
 cases o:(fk==0)
 ·go_enter Tryz.func51,Tryz.ntmps51
  go_wp2_with (go_at_call 70;refine(iR a).mono ?_;rintro d e ⟨rfl,rfl⟩)
  go_region_with (go_at_call 45;refine(bY (w:=e.drew) h _ _).mono ?_;rintro d p ⟨⟨f,i,rfl,j,k,l⟩,-⟩)
  all_goals
   go_wp2_with fail;go_end0;exact⟨f,i,Q,j,((Kp.refl _ _ _).drew).trans k,l⟩
 ·go_enter Tryz.func51,Tryz.ntmps51
  go_wp2_with (go_at_call 70;refine(iR a).mono ?_;rintro d e ⟨rfl,rfl⟩)
  go_end0;exact⟨M.fk,M.fa,Q,h,Kp.refl _ _ _,λ_=>rfl⟩
abbrev eV (lv:Int) (ov gv:Value) (io:OA) (il ic:Nat) (t0 t1 t2 t3:Value):Array Value:=#[vN lv,ov,gv,J io il ic,t0,t1,t2,t3]
theorem qZ {S:Nat->Prop} {D H B0:Nat} {w:World} {kind pos n m:Int} {name:ByteArray} {ko:OA} {kc:Nat} {ks:VV} (t:cZ B0 w (J ko (O ks) kc) ks) (L:∀i,i<O ks->∃g,ko=some ⟨g,0,I⟩) (aG:B0<=E (U w)) (M:∀x∈ks,∃h,isNode (λb=>b<B0) True h w x) {lv:Int} {ov gv t0 t1 t2 t3:Value} {p:OA} {f:Nat} {c:VV} (aw:ro w S 4 (J p (O c) f) (O c) c.flatten) (u:∀x∈c,af S (Gd D) H w x) (ax:n≠0->2<=O ks/\1<=O c):
 Calls Tryz.prog 54 #[.agg (ae kind pos n m name (J ko (O ks) kc)),.agg (eV lv ov gv p (O c) f t0 t1 t2 t3)] w (ix w):=by
 obtain⟨j,ay,l⟩:=eI w (Ob (ae kind pos n m name (J ko (O ks) kc)) 46) (Ob (eV lv ov gv p (O c) f t0 t1 t2 t3) 54);clear ay l;by_cases v:n=0
 ·subst v;go_enter Tryz.func54,Tryz.ntmps54
  go_wp2_with fail;go_ret;exact⟨_,Q,j⟩
 ·obtain⟨aH,aI⟩:=ax v;have aJ:(n==0)=false:=sU v;obtain⟨x,e⟩:∃x,ks[1]? =some x:=⟨_,gG oM⟩;obtain⟨aK,N⟩:=M x (mG e);obtain⟨aL,aM,aN,aO,P,aP,aQ,aR,rfl,_⟩:=isNode.cells N;obtain⟨g,a,q,aT,R⟩:=t.nth e;obtain⟨az,y⟩:=L 1 oM;have aA:a=0:=by rw[y] at q;simp at q;exact q.2.symm
  subst aA;subst q;obtain rfl:g=az:=sU y;clear y;have aU:w.cell? ⟨g,15,I⟩=some (.string P):=R 4 dC;have aV:g<E (U w):=oM;have aW:(1:Int)<(O ks:Int):=oM;have aX:=t.len.2;have z:0<O c:=oM;obtain⟨r,aB,T,_,aY,V⟩:=aw.nth (λx e=>af.four _ _ (u x e)) z;obtain⟨rfl,rfl⟩:p=some ⟨r,0,I⟩/\f=aB:=sU T;obtain⟨k,W,X,Y,Z,A,aa,B,C⟩:=af.cells _ (u _ (List.getElem_mem z));have s:=u _ (List.getElem_mem z);rw[C] at s
  have d:∀a,a<4->w.cell? ⟨r,a,I⟩=(ai k W (J X Y Z) (J A aa B))[a]? :=λa F=>by
   have:=V a F;rw[C,Nat.zero_mul,Nat.zero_add] at this;rw[this];simp
  have aZ:=d 0 dC;have a0:=d 1 dC;have a1:=d 2 dC;have a2:=d 3 dC;have a3:(0:Int)<(O c:Int):=oM;have aC:Below (E (U w)) w (((w.alloc (Ob (ae kind pos n m name (J (aS g) (O ks) kc)) 46)).alloc (Ob (eV lv ov gv (aS r) (O c) f t0 t1 t2 t3) 54)).alloc (Ob (ai k W (J X Y Z) (J A aa B)) 39)):=j.alloc (oH j.size) _;clear T V d C R e N M t L
  cases a4:(P.toList==[115,101,108,102])
  ·go_enter Tryz.func54,Tryz.ntmps54
   go_wp2_with fail;go_ret;exact⟨_,Q,j⟩
  ·by_cases ab:k=6\/k=7
   ·cases H with
    |zero=>exact absurd s (λx=>x)
    |succ H=>
    obtain⟨_,G,_,l,_,_,ac,K⟩:=s.parts;have aD:O G=1:=(ac.2.2.1 ab).2;obtain rfl:=l.len;have ad:0<O G:=oM;obtain⟨o,aE,ag,_,a5,ah⟩:=l.nth (λx e=>af.four _ _ (K x e)) ad;obtain⟨rfl,rfl⟩:A=some ⟨o,0,I⟩/\B=aE:=sU ag;obtain⟨aj,ak,al,ao,ap,aq,ar,au,av⟩:=af.cells _ (K _ (List.getElem_mem ad))
    have d:∀a,a<4->w.cell? ⟨o,a,I⟩=(ai aj ak (J al ao ap) (J aq ar au))[a]? :=λa F=>by
     have:=ah a F;rw[av,Nat.zero_mul,Nat.zero_add] at this;rw[this];simp
    have a6:=d 0 dC;have a7:=d 1 dC;have a8:=d 2 dC;have a9:=d 3 dC;have a':(0:Int)<(O G:Int):=oM;have ba:o<E (U w)+1:=oM;have bb:o<E (U w)+1+1:=oM;have bc:o≠E (U w)+1+1:=oM;have aF:Below (E (U w)) w (((w.alloc (Ob (ae kind pos n m name (J (aS g) (O ks) kc)) 46)).alloc (Ob (eV lv ov gv (aS r) (O c) f t0 t1 t2 t3) 54)).alloc (Ob (ai aj ak (J al ao ap) (J aq ar au)) 39)):=j.alloc (oH j.size) _;clear ag ah d av aD l ac K s;rcases ab with rfl|rfl
    all_goals
     go_enter Tryz.func54,Tryz.ntmps54
     go_wp2_with fail;go_ret;exact⟨_,Q,aF⟩
   ·have bd:(k==6)=false:=ot oM;have bf:(k==7)=false:=ot oM;go_enter Tryz.func54,Tryz.ntmps54
    go_wp2_with fail;go_ret;exact⟨_,Q,aC⟩
section
variable{w:World}
def vT (w:World) (e:Ending) (w':World):Prop:=∃r:Int,e=.returned (vN r)/\Below (E (U w)) w w'
structure OM (w:World) (nd sg:Array Value) (wr:World):Prop where
 below:Below (E (U w)) w wr
 nb:wr.heap[E (U w)]? =some (Ob nd 46 (0,0))
 sb:wr.heap[E (U w)+1]? =some (Ob sg 54 (0,0))
theorem OM.step {wr w':World} {b c:Array Value} (q:OM w b c wr) (a:Below (E (U wr)) wr w'):OM w b c w':=
 ⟨q.below.trans (a.mono q.below.size),(a.block _ (gE q.nb).1).trans q.nb,(a.block _ (gE q.sb).1).trans q.sb⟩
theorem wM {S:Nat->Prop} {D H B0:Nat} {kind pos n m:Int} {name:ByteArray} {ko:OA} {kc:Nat} {ks:VV} (M:cZ B0 w (J ko (O ks) kc) ks) (aH:∀i,i<O ks->∃g,ko=some ⟨g,0,I⟩) (bc:B0<=E (U w)) (aI:∀x∈ks,∃h,isNode (λb=>b<B0) True h w x) {lv:Int} {ov gv t0 t1 t2 t3:Value} {B:OA} {y:Nat} {a:VV} (ag:ro w S 4 (J B (O a) y) (O a) a.flatten) (Y:∀x∈a,af S (Gd D) (H+1) w x/\∀f,6100*aU f w x<=17592186044416) (bF:O a<=30000) (aK:n>0->2<=O ks/\1<=O a):
 Calls Tryz.prog 74 #[.agg (ae kind pos n m name (J ko (O ks) kc)),.agg (eV lv ov gv B (O a) y t0 t1 t2 t3)] w (vT w):=by
 obtain⟨aL,aM,aN⟩:=eI w (Ob (ae kind pos n m name (J ko (O ks) kc)) 46) (Ob (eV lv ov gv B (O a) y t0 t1 t2 t3) 54);have K:OM w (ae kind pos n m name (J ko (O ks) kc)) (eV lv ov gv B (O a) y t0 t1 t2 t3) ((w.alloc (Ob (ae kind pos n m name (J ko (O ks) kc)) 46)).alloc (Ob (eV lv ov gv B (O a) y t0 t1 t2 t3) 54)):=⟨aL,aM,aN⟩;have ah:Hid (∀x∈a,af S (Gd D) (H+1) w x/\∀f,6100*aU f w x<=17592186044416):=Y
 have Z:Hid (∀l,l<O a->∃g,B=some ⟨g,0,I⟩/\g<E (U w)/\∃c j q s o t u v,a[l]? =some (ai c j (J q s o) (J t u v)).toList/\∀k,k<4->w.cell? ⟨g,l*4+k,I⟩=(ai c j (J q s o) (J t u v))[k]?):=by
  intro l L;obtain⟨g,aj,z,hS,N,A⟩:=ag.nth (λx r=>af.four _ _ (Y x r).1) L;obtain⟨rfl,rfl⟩:B=some ⟨g,0,I⟩/\y=aj:=sU z;obtain⟨c,j,q,s,o,t,u,v,aO⟩:=af.cells _ (Y _ (List.getElem_mem L)).1;refine⟨g,Q,N,c,j,q,s,o,t,u,v,by rw[gG L,aO],λk ak=>?_⟩;rw[A k ak,aO];simp
 have bG:=M.len.2
 have aP:Hid (n>0->∃g P,ko=some ⟨g,0,I⟩/\g<E (U w)/\w.cell? ⟨g,15,I⟩=some (.string P)/\1<O ks/\0<O a):=by
  intro bd;obtain⟨bH,bI⟩:=aK bd;obtain⟨x,r⟩:∃x,ks[1]? =some x:=⟨_,gG oM⟩;obtain⟨aQ,bf⟩:=aI x (mG r);obtain⟨c,bJ,j,bK,P,bL,bM,bN,rfl,_⟩:=isNode.cells bf;obtain⟨g,k,z,N,bg⟩:=M.nth r;obtain⟨bO,bh⟩:=aH 1 oM;have bi:k=0:=by rw[bh] at z;simp at z;exact z.2.symm
  subst bi;exact⟨g,P,z,oM,bg 4 dC,oM,oM⟩
 have bP:(O a:Int)<=30000:=oM;clear M aH aI ag Y aK aL aM aN bc;go_enter Tryz.func74,Tryz.ntmps74
 go_upto_region 1 with fail
 go_cut [36] (λbj aa=>∃b:Bool,bj=.bool b/\OM w (ae kind pos n m name (J ko (O ks) kc)) (eV lv ov gv B (O a) y t0 t1 t2 t3) aa/\(b=true->∃x,a[0]? =some x/\∃c j ao ap,x=(ai c j ao ap).toList/\(c=6\/c=7)))
 case first=>
  by_cases aR:n>0
  ·obtain⟨g,P,rfl,N,bQ,bR,aq⟩:=aP.out aR;have bS:(1:Int)<(O ks:Int):=oM;obtain⟨F,rfl,aT,c,j,q,s,o,t,u,v,r,A⟩:=Z.out 0 aq;have bT:w.cell? ⟨F,0,I⟩=some (vN c):=A 0 dC;have bk:(0:Int)<(O a:Int):=oM;have aV:Hid (a[0]? =some (ai c j (J q s o) (J t u v)).toList):=r;have bU:g<E (U w)+1:=oM;have bl:g<E (U w)+1+1:=oM;have bV:F<E (U w)+1:=oM;have bW:F<E (U w)+1+1:=oM;clear r A aP Z ah
   cases bX:(P.toList==[115,101,108,102])
   ·go_wp2_with fail;go_meet;exact⟨false,Q,K,λh=>by cases h⟩
   ·by_cases aW:c=6
    ·subst aW;go_wp2_with fail;go_meet;exact⟨true,Q,K,λ_=>⟨_,aV.out,_,_,_,_,Q,.inl Q⟩⟩
    ·by_cases aX:c=7
     ·subst aX;go_wp2_with fail;go_meet;exact⟨true,Q,K,λ_=>⟨_,aV.out,_,_,_,_,Q,.inr Q⟩⟩
     ·have bY:(c==6)=false:=sU aW;have bZ:(c==7)=false:=sU aX;go_wp2_with fail;go_meet;exact⟨false,Q,K,λh=>by cases h⟩
  ·have b0:decide (n>0)=false:=sU aR;go_wp2_with fail;go_meet;exact⟨false,Q,K,λh=>by cases h⟩
 case rest=>
  clear K;obtain⟨b,rfl,e,ar⟩:=hcut;have bm:=λk=>cell_of_row wc _ k _ 46 (0,0) e.nb;have bn:E (U w)<E (U wc):=(gE e.nb).1;have au:=λk=>cell_of_row wc _ k _ 54 (0,0) e.sb;have av:E (U w)+1<E (U wc):=(gE e.sb).1
  cases b
  ·clear ar;go_wp2_with fail;clear bm bn au av;go_loopg [5,7,9,47] (O a) (λaw ax _ _ ay wr=>∃(l:Nat) (one:Int),aw=O a - l/\ay=vN l/\ax=vN one/\l<=O a/\OM w (ae kind pos n m name (J ko (O ks) kc)) (eV lv ov gv B (O a) y t0 t1 t2 t3) wr)
   case atStart=>exact⟨0,0,Q,Q,Q,zL _,e⟩
   case round=>
    clear e;obtain⟨l,one,R,rfl,rfl,b1,e⟩:=hrel;have bo:Hid (gk=O a - l):=R;clear R;have au:=λk=>cell_of_row wr _ k _ 54 (0,0) e.sb;have av:E (U w)+1<E (U wr):=(gE e.sb).1;by_cases L:l<O a
    ·have aY:(l:Int)<(O a:Int):=oM;obtain⟨g,rfl,N,c,j,q,s,o,t,u,v,r,A⟩:=Z.out l L;have T:∀k,k<4->wr.cell? ⟨g,l*4+k,I⟩=(ai c j (J q s o) (J t u v))[k]? :=λk ak=>(e.below.cell (p:=⟨g,l*4+k,I⟩) N).trans (A k ak);have az:=T 0 dC;have bp:=T 1 dC;have aA:=T 2 dC;have bq:=T 3 dC;simp only[Nat.add_zero] at az;have br:g<E (U wr):=oH e.below.size;have V:Below (E (U w)) w (wr.alloc (Ob (ai c j (J q s o) (J t u v)) 39)):=e.below.alloc e.below.size _;have ab:=ah.out _ (mG r);have aZ:Hid (af S (Gd D) (H+1) (wr.alloc (Ob (ai c j (J q s o) (J t u v)) 39)) (ai c j (J q s o) (J t u v)).toList):=af.frame (al.below V) V.size _ _ ab.1
     have aB:Hid (6100*aU (H+1) (wr.alloc (Ob (ai c j (J q s o) (J t u v)) 39)) (ai c j (J q s o) (J t u v)).toList<=17592186044416):=by
      show _<=_;rw[aJ (al.below V) V.size _ _ ab.1];exact ab.2 _
     have a0:=e.step (al1 wr (Ob (ai c j (J q s o) (J t u v)) 39)).1;clear T A r ab V;go_wp2_with fail;refine(mL (λ_ _ _ _ aQ=>aQ.1) (H+1) aZ.out aB.out).mono ?_;rintro z a1 ⟨aD,aE,d,rfl,aF,a2,a3⟩;have b2:O d<=17592186044416:=lT a2 aB.out;have a4:=a0.step a3;obtain⟨W,a5⟩:∃W,W=E (U (wr.alloc (Ob (ai c j (J q s o) (J t u v)) 39))):=⟨_,Q⟩;rw[<-a5] at aF;have C:Hid (a1.ownsRow W 3 1 (J aD (O d) aE) (O d) (aC d)/\OM w (ae kind pos n m name (J ko (O ks) kc)) (eV lv ov gv (aS g) (O a) y t0 t1 t2 t3) a1):=⟨aF,a4⟩;clear aF a2 a5 au av az bp aA bq br aZ aB a0 a4 a3 e;go_wp2_with fail;go_loopg [5,9,54] (O d) (λaw ax _ ay aa=>∃(i:Nat) (one:Int),aw=O d - i/\ay=vN i/\ax=vN one/\i<=O d/\(aa.ownsRow W 3 1 (J aD (O d) aE) (O d) (aC d)/\OM w (ae kind pos n m name (J ko (O ks) kc)) (eV lv ov gv (aS g) (O a) y t0 t1 t2 t3) aa))
     case atStart=>exact⟨0,one,Q,Q,Q,zL _,C.out⟩
     case round=>
      clear C;obtain⟨i,one,R,rfl,rfl,ag,a6⟩:=hrel;have C:Hid ((wr.ownsRow W 3 1 (J aD (O d) aE) (O d) (aC d)/\OM w (ae kind pos n m name (J ko (O ks) kc)) (eV lv ov gv (aS g) (O a) y t0 t1 t2 t3) wr)):=a6;clear a6;have aG:Hid (gk=O d - i):=R;clear R;by_cases ac:i<O d
      ·have a7:(i:Int)<(O d:Int):=oM;obtain⟨x,r⟩:∃x,d[i]? =some x:=⟨_,gG ac⟩;obtain⟨b3,rfl,bl,b4,az⟩:=kV C.out.1 r;clear r;by_cases bs:x>0
       ·by_cases bt:one>0
        ·by_cases a8:x=one
         ·subst a8;go_wp2_with fail;go_roundg (O d - (i+1))
          case measure=>rw[aG.out];omega
          case rel=>exact⟨i+1,_,Q,by go_num,Q,ac,C.out⟩
         ·have b5:(x !=one)=true:=sU a8;go_wp2_with fail;go_ret;exact⟨_,Q,C.out.2.below⟩
        ·have b6:decide (one>0)=false:=sU bt;go_wp2_with fail;go_roundg (O d - (i+1))
         case measure=>rw[aG.out];omega
         case rel=>exact⟨i+1,_,Q,by go_num,Q,ac,C.out⟩
       ·have b7:decide (x>0)=false:=sU bs;go_wp2_with fail;go_roundg (O d - (i+1))
        case measure=>rw[aG.out];omega
        case rel=>exact⟨i+1,_,Q,by go_num,Q,ac,C.out⟩
      ·have a7:¬(i:Int)<(O d:Int):=oM;have b8:decide ((i:Int)<(O d:Int))=false:=sU a7;go_wp2_with fail;go_roundg (O a - (l+1))
       case measure=>rw[bo.out];omega
       case rel=>exact⟨l+1,one,Q,by go_num,Q,L,C.out.2⟩
    ·have aY:¬(l:Int)<(O a:Int):=oM;have b9:decide ((l:Int)<(O a:Int))=false:=sU aY;go_wp2_with fail;go_ret;exact⟨_,Q,e.below⟩
  ·obtain⟨x,r,c,j,ao,ap,rfl,bu⟩:=ar Q;have aq:0<O a:=(gS r).1;obtain⟨F,rfl,aT,bv,bw,q,s,o,t,u,v,G,A⟩:=Z.out 0 aq
   obtain⟨rfl,rfl,rfl,rfl⟩:bv=c/\bw=j/\Value.slice q s o=ao/\Value.slice t u v=ap:=by
    rw[r] at G;simp at G;exact⟨G.1.symm,G.2.1.symm,G.2.2.1.symm,G.2.2.2.symm⟩
   obtain⟨d,b',a9,bx,bz,bA,a',bB⟩:=(ah.out _ (mG r)).1.parts;have bC:O d=1:=(a'.2.2.1 bu).1;obtain rfl:=a9.len;obtain⟨bD,aj,z,_,ba⟩:=a9;obtain⟨ad,aA,_,bE,bb⟩:=ba oM;obtain⟨rfl,-⟩:q=bD/\o=aj:=sU z;subst aA
   obtain⟨X,M⟩:∃X,d=[X]:=by
    match d,bC with
    |[X],_=>exact⟨X,Q⟩
   subst M;have ca:wc.cell? ⟨ad,0,I⟩=some (vN X):=(e.below.cell (p:=⟨ad,0,I⟩) bE).trans (bb 0 sQ);have cb:wc.cell? ⟨F,2,I⟩=some (J (aS ad) 1 o):=(e.below.cell (p:=⟨F,2,I⟩) aT).trans (A 2 dC);have bk:(0:Int)<(O a:Int):=oM;have cc:ad<E (U wc):=oH e.below.size;have cd:F<E (U wc):=oH e.below.size;clear bb A r G bx bz bA a' bB ba z ar;go_wp2_with fail;go_ret;exact⟨_,Q,e.below⟩
end
section
variable{p:Addr} {M:MK} {ad mb:Nat} {w w':World}
structure KX (X:Nat->Prop) (B:Nat) (w w':World):Prop where
 os:w'.os=w.os
 tape:w'.tape=w.tape
 output:w'.output=w.output
 size:E (U w)<=E (U w')
 block:∀k,k<B->¬X k->w'.heap[k]? =w.heap[k]?
section
variable{X X':Nat->Prop} {B B':Nat} {a w w':World}
theorem KX.refl (X:Nat->Prop) (B:Nat) (w:World):KX X B w w:=⟨Q,Q,Q,lR _,λ_ _ _=>rfl⟩
theorem KX.trans (h:KX X B a w) (k:KX X B w w'):KX X B a w':=⟨k.os.trans h.os,k.tape.trans h.tape,k.output.trans h.output,lT h.size k.size,λb c d=>(k.block b c d).trans (h.block b c d)⟩
theorem KX.mono (h:KX X B w w') (c:∀k,k<B'->X k->X' k) (d:B'<=B):KX X' B' w w':=⟨h.os,h.tape,h.output,h.size,λk b e=>h.block k (Nat.lt_of_lt_of_le b d) (λf=>e (c k b f))⟩
theorem KX.aq (h:Below B w w'):KX X B w w':=⟨h.os,h.tape,h.output,h.size,λk b _=>h.block k b⟩
theorem KX.cN {rb:Nat} (h:Kp B rb w w') (b:X rb):KX X B w w':=⟨h.os,h.tape,h.output,h.size,λk c d=>h.block k c (λe=>d (e▸b))⟩
theorem KX.drew (h:KX X B a w):KX X B a w.drew:=⟨h.os,h.tape,h.output,h.size,h.block⟩
theorem KX.setCell (h:KX X B a w) (b:B<=p.block\/X p.block) (u:Value):KX X B a (w.setCell p u):=
 ⟨h.os,h.tape,h.output,sU h.size,λk d c=>(Below.heap_setCell _ _ _ _ (λe=>by rcases b with b|b;omega;exact c (e▸b))).trans (h.block k d c)⟩
theorem KX.cell (h:KX X B w w') (b:p.block<B) (c:¬X p.block):w'.cell? p=w.cell? p:=World.cell?_of_block (w:=w) (h.block p.block b c)
end
theorem cF.below (h:cF w mb M) (b:Below (E (U w)) w w'):cF w' mb M:=(b.block _ h.lt).trans h
abbrev CK.nm (K:CK) (aw:OA) (cO:Nat) (aZ:List ByteArray) (cj:OA) (tcp:Nat) (bg:List ByteArray):CK:={K with aw:=aw,cO:=cO,aZ:=aZ,cj:=cj,tcp:=tcp,bg:=bg}
structure oJ (w:World) (mb cb:Nat) (M:MK) (K:CK) (how next one fk fa:Int) (nd:Array Value) (wr:World) (aw:OA) (cO:Nat) (aZ:List ByteArray) (cj:OA) (tcp:Nat) (bg:List ByteArray) (k a:Int):Prop where
 kx:KX (λb=>b=cb\/b=mb) (E (U w)) w wr
 c:bP wr cb (K.nm aw cO aZ cj tcp bg) how next one fk fa
 m:cF wr mb (M.bt k a)
 eS:cb<E (U w)
 gK:mb<E (U w)
 ne:mb≠cb
 nb:wr.heap[E (U w)]? =some (Ob nd 46 (0,0))
 lv:wr.ownsRow (E (U w)+1) 9 1 (J aw (O aZ) cO) (O aZ) (cd aZ)
 tv:wr.ownsRow (E (U w)+1) 9 1 (J cj (O bg) tcp) (O bg) (cd bg)
 sep:∀b,(Value.slice aw (O aZ) cO).ownBlock=some b->(Value.slice cj (O bg) tcp).ownBlock≠some b
 hf:M.fk≠0->k=M.fk
section
variable{w wr w':World} {mb cb:Nat} {M:MK} {K:CK} {how next one fk fa:Int} {nd:Array Value} {aw:OA} {cO:Nat} {aZ:List ByteArray} {cj:OA} {tcp:Nat} {bg:List ByteArray} {k a k' a':Int}
theorem oJ.ln (q:oJ w mb cb M K how next one fk fa nd wr aw cO aZ cj tcp bg k a):E (U w)<E (U wr):=(gE q.nb).1
theorem oJ.step (q:oJ w mb cb M K how next one fk fa nd wr aw cO aZ cj tcp bg k a) (b:Kp (E (U wr)) mb wr w') (i:cF w' mb (M.bt k' a')) (j:M.fk≠0->k'=M.fk):oJ w mb cb M K how next one fk fa nd w' aw cO aZ cj tcp bg k' a':=by
 have o:=q.ln;have l:=q.gK;have m:=q.eS;have f:=q.ne;refine⟨q.kx.trans ((KX.cN b (.inr Q)).mono (λ_ _ h=>h) oM),(b.block _ oM (λn=>f n.symm)).trans q.c,i,m,l,f,(b.block _ oM oM).trans q.nb,ag q.lv (λc d e=>b.block c e (oH (q.lv.lt c d).1)),ag q.tv (λc d e=>b.block c e (oH (q.tv.lt c d).1)),q.sep,j⟩
theorem oJ.below (q:oJ w mb cb M K how next one fk fa nd wr aw cO aZ cj tcp bg k a) (b:Below (E (U wr)) wr w'):oJ w mb cb M K how next one fk fa nd w' aw cO aZ cj tcp bg k a:=q.step (Kp.aq b) (q.m.below b) q.hf
theorem qf (x:ByteArray):∀b∈(#[Value.string x]:Array Value).toList,b.oneCell'=true:=by
 intro b c;obtain rfl:b=.string x:=sU c;rfl
theorem oJ.uo (q:oJ w mb cb M K how next one fk fa nd wr aw cO aZ cj tcp bg k a) (x:ByteArray) (hl:O aZ<=30000) (s:TypeId) (A:ad=E (U wr)):
 ∃n w',(Builtin.append_ #[50,50] s #[J aw (O aZ) cO,J (aS ad) 1 1]).run Tryz.prog (wr.alloc (Ob #[.string x] 9))=.ok n w'/\∃f i,n=J f (O aZ+1) i/\bP w' cb (K.nm aw cO aZ cj tcp bg) how next one fk fa/\oJ w mb cb M K how next one fk fa nd (w'.setCell ⟨cb,2,I⟩ (J f (O aZ+1) i)) f i (aZ++[x]) cj tcp bg k a:=by
 have C:=q.ln;have D:=q.gK;have F:=q.eS;have t:=q.ne;obtain⟨n,w',G,e⟩:=fg (W:=wr) Tryz.underlying50 tV Q dC q.lv oM #[.string x] rfl (qf x) (by unfold maxLen;omega) oM s A;obtain⟨f,i,rfl⟩:=e.shape;have j:∀b,b<E (U wr)->(Value.slice aw (O aZ) cO).ownBlock≠some b->w'.heap[b]? =wr.heap[b]? :=λb c o=>(e.grown.block b (by simp;omega) (λd=>o d.symm)).trans (Below.heap_alloc _ _ _ c);have m:∀b,b<=E (U w)->(Value.slice aw (O aZ) cO).ownBlock≠some b:=λb c d=>oH (q.lv.lt b d).1;have u:bP w' cb (K.nm aw cO aZ cj tcp bg) how next one fk fa:=(j cb oM (m _ oM)).trans q.c;have l:∀b,b≠cb->(w'.setCell ⟨cb,2,I⟩ (J f (O aZ+1) i)).heap[b]? =w'.heap[b]? :=λb c=>Below.heap_setCell _ ⟨cb,2,I⟩ _ _ c;have H:E (U wr)<=E (U w'):=lT sQ e.grown.size;have v:=e.row;have y:w'.ownsRow (E (U w)+1) 9 1 (J cj (O bg) tcp) (O bg) (cd bg):=ag q.tv (λb c hl=>j b hl (λd=>q.sep b d c));have r:O (aZ++[x])=O aZ+1:=sQ;have L:cd (aZ++[x])=cd aZ++[.string x]:=by simp[cd]
 refine⟨_,w',G,f,i,Q,u,⟨?_,?_,(l _ t).trans ((j _ oM (m _ oM)).trans q.m),F,D,t,(l _ oM).trans ((j _ C (m _ oM)).trans q.nb),?_,?_,?_,q.hf⟩⟩
 ·refine q.kx.trans ⟨e.grown.os,e.grown.tape,e.grown.output,sU H,λb c o=>(l b (λd=>o (.inl d))).trans (j b oM (m _ oM))⟩
 ·have:=u.set 2 (J f (O aZ+1) i);unfold bP dL;dsimp only
  rw[r];simpa using this
 ·rw[L,r];exact ag v (λb c _=>l b (λd=>oH (v.lt b c).1))
 ·exact ag y (λb c _=>l b (λd=>oH (y.lt b c).1))
 ·intro b c z;rw[r] at c;have N:=(q.tv.lt b z).2;rcases e.own with d|d
  ·exact q.sep b (by rw[<-d];exact c) z
  ·rw[d] at c;simp at c;omega
theorem oJ.oD (q:oJ w mb cb M K how next one fk fa nd wr aw cO aZ cj tcp bg k a) (x:ByteArray) (hl:O bg<=30000) (t:TypeId) (A:ad=E (U wr)):
 ∃o w',(Builtin.append_ #[50,50] t #[J cj (O bg) tcp,J (aS ad) 1 1]).run Tryz.prog (wr.alloc (Ob #[.string x] 9))=.ok o w'/\∃f i,o=J f (O bg+1) i/\bP w' cb (K.nm aw cO aZ cj tcp bg) how next one fk fa/\oJ w mb cb M K how next one fk fa nd (w'.setCell ⟨cb,3,I⟩ (J f (O bg+1) i)) aw cO aZ f i (bg++[x]) k a:=by
 have C:=q.ln;have D:=q.gK;have F:=q.eS;have u:=q.ne;obtain⟨o,w',G,e⟩:=fg (W:=wr) Tryz.underlying50 tV Q dC q.tv oM #[.string x] rfl (qf x) (by unfold maxLen;omega) oM t A;obtain⟨f,i,rfl⟩:=e.shape;have j:∀b,b<E (U wr)->(Value.slice cj (O bg) tcp).ownBlock≠some b->w'.heap[b]? =wr.heap[b]? :=λb c r=>(e.grown.block b (by simp;omega) (λd=>r d.symm)).trans (Below.heap_alloc _ _ _ c);have m:∀b,b<=E (U w)->(Value.slice cj (O bg) tcp).ownBlock≠some b:=λb c d=>oH (q.tv.lt b d).1;have v:bP w' cb (K.nm aw cO aZ cj tcp bg) how next one fk fa:=(j cb oM (m _ oM)).trans q.c;have l:∀b,b≠cb->(w'.setCell ⟨cb,3,I⟩ (J f (O bg+1) i)).heap[b]? =w'.heap[b]? :=λb c=>Below.heap_setCell _ ⟨cb,3,I⟩ _ _ c;have H:E (U wr)<=E (U w'):=lT sQ e.grown.size;have y:=e.row;have z:w'.ownsRow (E (U w)+1) 9 1 (J aw (O aZ) cO) (O aZ) (cd aZ):=ag q.lv (λb c hl=>j b hl (λd=>q.sep b c d));have s:O (bg++[x])=O bg+1:=sQ;have L:cd (bg++[x])=cd bg++[.string x]:=by simp[cd]
 refine⟨_,w',G,f,i,Q,v,⟨?_,?_,(l _ u).trans ((j _ oM (m _ oM)).trans q.m),F,D,u,(l _ oM).trans ((j _ C (m _ oM)).trans q.nb),?_,?_,?_,q.hf⟩⟩
 ·refine q.kx.trans ⟨e.grown.os,e.grown.tape,e.grown.output,sU H,λb c r=>(l b (λd=>r (.inl d))).trans (j b oM (m _ oM))⟩
 ·have:=v.set 3 (J f (O bg+1) i);unfold bP dL;dsimp only
  rw[s];simpa using this
 ·exact ag z (λb c _=>l b (λd=>oH (z.lt b c).1))
 ·rw[L,s];exact ag y (λb c _=>l b (λd=>oH (y.lt b c).1))
 ·intro b c n;rw[s] at n;have N:=(q.lv.lt b c).2;rcases e.own with d|d
  ·exact q.sep b c (by rw[<-d];exact n)
  ·rw[d] at n;simp at n;omega
end
def xG (w:World) (mb cb:Nat) (M:MK) (K:CK) (how one fk fa:Int) (N:Nat) (e:Ending) (w':World):Prop:=
 ∃(aw:OA) (cO:Nat) (aZ:List ByteArray) (cj:OA) (tcp:Nat) (bg:List ByteArray) (k a:Int),e=.returned (.tuple #[])/\O aZ+O bg=N/\bP w' cb (K.nm aw cO aZ cj tcp bg) how (O aZ) one fk fa/\cF w' mb (M.bt k a)/\KX (λb=>b=cb\/b=mb) (E (U w)) w w'/\w'.ownsRow (E (U w)) 9 1 (J aw (O aZ) cO) (O aZ) (cd aZ)/\w'.ownsRow (E (U w)) 9 1 (J cj (O bg) tcp) (O bg) (cd bg)/\(∀b,(Value.slice aw (O aZ) cO).ownBlock=some b->(Value.slice cj (O bg) tcp).ownBlock≠some b)/\(M.fk≠0->k=M.fk)
end
section
variable{kind n:Int} {ls:List Int} {D ad lc:Nat} {S:Nat->Prop} {lo:OA} {w wr:World}
theorem af.fin {G:Int->Int->Nat->Nat->Prop}:(h:Nat)->(cs:List Value)->af S G h w cs->∃c,∀a,aU a w cs<=c
 |0,_,hn=>absurd hn (λb=>b)
 |h+1,cs,⟨kind,n,lv,av,ls,vs,h1,h2,h3,h4,h5,h6,h7⟩=>by
  have f:∀d:VV,(∀b∈d,af S G h w b)->∃c,∀a,(d.map (aU a w)).sum<=c:=by
   intro d;induction d with
   |nil=>intro _;exact⟨0,λa=>lR _⟩
   |cons b r i=>
    intro e;obtain⟨j,k⟩:=af.fin h b (e b sQ);obtain⟨l,m⟩:=i (λo p=>e o (List.mem_cons_of_mem _ p));refine⟨j+l,λa=>?_⟩;have s:=k a;have t:=m a;simp only[List.map_cons,List.sum_cons];omega
  obtain⟨c,q⟩:=f vs h7;refine⟨1+c,λa=>?_⟩
  cases a with
  |zero=>exact zL _
  |succ a=>
   have:=q a;rw[h1,gQ h3 h7];omega
def pM (w:World) (S:Nat->Prop) (D:Nat) (e:Ending) (w':World):Prop:=
 ∃(kind n:Int) (aw:OA) (ln lc:Nat) (aao:OA) (an ac H:Nat),e=.returned (.agg (ai kind n (J aw ln lc) (J aao an ac)))/\Below (E (U w)) w w'/\af (λb=>S b\/E (U w)<=b) (Gd D) H w' (ai kind n (J aw ln lc) (J aao an ac)).toList
def uW (D h:Nat):Prop:=∀{w:World} {S:Nat->Prop} {kind n:Int} {aw:OA} {ln lc:Nat} {aao:OA} {an ac:Nat} (by':Int),af S (Gd D) h w (ai kind n (J aw ln lc) (J aao an ac)).toList->Calls Tryz.prog 95 #[.agg (ai kind n (J aw ln lc) (J aao an ac)),vN by'] w (pM w S D)
structure yP (w:World) (t:Array Value) (kind n:Int) (wr:World) (lo:OA) (lc:Nat) (ls:List Int):Prop where
 below:Below (E (U w)) w wr
 pb:aN wr (E (U w)) t
 zb:aN wr (E (U w)+1) dF
 ob:aN wr (E (U w)+2) (ai kind n (J lo (O ls) lc) (J I 0 0))
 row:wr.ownsRow (E (U w)+3) 3 1 (J lo (O ls) lc) (O ls) (aC ls)
theorem yP.run {t:Array Value} (q:yP w t kind n wr lo lc ls) (r:Int) (B:O ls<=30000) (k:TypeId) (u:ad=E (U wr)):
 ∃f w',(Builtin.append_ #[22,22] k #[J lo (O ls) lc,J (aS ad) 1 1]).run Tryz.prog (wr.alloc (Ob #[vN r] 3))=.ok f w'/\∃b c,f=J b (O ls+1) c/\aN w' (E (U w)+2) (ai kind n (J lo (O ls) lc) (J I 0 0))/\yP w t kind n (w'.setCell ⟨E (U w)+2,2,I⟩ (J b (O ls+1) c)) b c (ls++[r]):=by
 have C:=q.ob.lt
 have one:∀i∈(#[Value.int .i64 r]:Array Value).toList,i.oneCell'=true:=by
  intro i v;obtain rfl:i=vN r:=sU v;rfl
 obtain⟨f,w',x,d⟩:=fg (W:=wr) Tryz.underlying22 rF Q dC q.row oM #[vN r] rfl one (by unfold maxLen;omega) oM k u;obtain⟨b,c,rfl⟩:=d.shape;have l:∀a,a<E (U w)+3->w'.heap[a]? =wr.heap[a]? :=λa m=>(d.grown.block a (by simp;omega) (λe=>oH (q.row.lt a e.symm).1)).trans (Below.heap_alloc _ _ _ oM);have o:aN w' (E (U w)+2) (ai kind n (J lo (O ls) lc) (J I 0 0)):=(l _ oM).trans q.ob;refine⟨_,w',x,b,c,Q,o,?_⟩;have j:∀a,a<E (U w)+3->a≠E (U w)+2->(w'.setCell ⟨E (U w)+2,2,I⟩ (J b (O ls+1) c)).heap[a]? =wr.heap[a]? :=λa m y=>(Below.heap_setCell _ ⟨E (U w)+2,2,I⟩ _ _ y).trans (l a m);have p:=d.row;have z:E (U wr)<=E (U w'):=lT sQ d.grown.size;refine⟨q.below.trans ⟨d.grown.os,d.grown.tape,d.grown.output,sU z,λa s=>j a oM oM⟩,(j _ oM oM).trans q.pb,(j _ oM oM).trans q.zb,?_,?_⟩
 ·have:=aN.set o 2 (J b (O ls+1) c);simpa using this
 ·have e:aC (ls++[r])=aC ls++[vN r]:=by simp[aC]
  rw[e];have A:O (ls++[r])=O ls+1:=sQ;rw[A];exact ag p (λa s _=>Below.heap_setCell _ ⟨E (U w)+2,2,I⟩ _ _ (λe=>by have:=(p.lt a s).1;simp at e;omega))
structure uG (w W1:World) (D:Nat) (S:Nat->Prop) (kind n:Int) (wr:World) (lo:OA) (lc:Nat) (ls:List Int) (kv:Value) (vs:VV):Prop where
 below:Below (E (U w)) w wr
 zb:aN wr (E (U w)+1) dF
 ob:aN wr (E (U w)+2) (ai kind n (J lo (O ls) lc) kv)
 lv:ro wr (λb=>E (U w)+3<=b/\b<E (U W1)) 1 (J lo (O ls) lc) (O ls) (aC ls)
 ty:∃X,lC W1 (E (U w)+2) (λb=>S b/\b<E (U w)) D wr kv vs X
 l1:E (U w)+3<=E (U W1)
section
variable{w W1 wr w':World} {D:Nat} {S:Nat->Prop} {kind n:Int} {lo:OA} {lc:Nat} {ls:List Int} {kv:Value} {vs:VV}
theorem uG.size (q:uG w W1 D S kind n wr lo lc ls kv vs):E (U W1)<=E (U wr):=by
 obtain⟨b,a⟩:=q.ty;exact a.size
theorem uG.step (q:uG w W1 D S kind n wr lo lc ls kv vs) (a:Below (E (U wr)) wr w'):uG w W1 D S kind n w' lo lc ls kv vs:=by
 have e:=q.size;have f:=q.l1;obtain⟨b,c⟩:=q.ty;exact⟨q.below.trans (a.mono q.below.size),(a.block _ oM).trans q.zb,(a.block _ oM).trans q.ob,q.lv.frame (λd h _=>a.block d oM) a.size,⟨b,c.step (Kp.aq a)⟩,q.l1⟩
theorem uG.run (q:uG w W1 D S kind n wr lo lc ls kv vs) {e k:Int} {l:OA} {m o:Nat} {r:OA} {s t:Nat} {H W0:Nat} (F:∀b,kv.ownBlock=some b->b<W0) (G:E (U W1)<=W0) (x:af (λb=>(S b/\b<E (U w))\/W0<=b) (Gd D) H wr (ai e k (J l m o) (J r s t)).toList) (K:O vs<=30000) (y:TypeId) (L:ad=E (U wr)):
 ∃f w',(Builtin.append_ #[36,36] y #[kv,J (aS ad) 1 1]).run Tryz.prog (wr.alloc (Ob (ai e k (J l m o) (J r s t)) 39))=.ok f w'/\∃a c,f=J a (O vs+1) c/\aN w' (E (U w)+2) (ai kind n (J lo (O ls) lc) kv)/\uG w W1 D S kind n (w'.setCell ⟨E (U w)+2,3,I⟩ (J a (O vs+1) c)) lo lc ls (J a (O vs+1) c) (vs++[(ai e k (J l m o) (J r s t)).toList]):=by
 have V:=q.size;have W:=q.l1;obtain⟨M,z⟩:=q.ty;obtain⟨N,P⟩:=af.fin _ _ x;obtain⟨f,w',R,a,c,u,T,e,i⟩:=z.run F G x P K y L;have A:∀b,b<E (U W1)->b<E (U wr)/\kv.ownBlock≠some b:=λb d=>⟨oM,λu=>oH (z.row.lt b u).1⟩;have j:∀b,b<E (U W1)->w'.heap[b]? =wr.heap[b]? :=λb d=>e b (A b d).1 (A b d).2;have B:aN w' (E (U w)+2) (ai kind n (J lo (O ls) lc) kv):=(j _ oM).trans q.ob;refine⟨f,w',R,a,c,u,B,?_⟩;have C:E (U wr)<=E (U w'):=i.size;have v:∀b,b≠E (U w)+2->(w'.setCell ⟨E (U w)+2,3,I⟩ (J a (O vs+1) c)).heap[b]? =w'.heap[b]? :=λb d=>Below.heap_setCell _ ⟨E (U w)+2,3,I⟩ _ _ d;refine⟨q.below.trans ⟨i.os,i.tape,i.output,sU C,λb d=>(v b oM).trans (j b oM)⟩,(v _ oM).trans ((j _ oM).trans q.zb),?_,q.lv.frame (λb h _=>(v b oM).trans (j b oM)) (sU C),⟨M+N,T.step ?_⟩,q.l1⟩
 ·have:=aN.set B 3 (J a (O vs+1) c);simpa using this
 ·exact(Kp.refl _ _ _).setCell (p:=⟨E (U w)+2,3,I⟩) (.inr Q) _
end
theorem uV {h:Nat} (aB:uW D h):uW D (h+1):=by
 intro w S kind n T bI lc V bJ ac aD aE
 have aF:Hid (uW D h):=@aB;clear aB;obtain⟨ls,e,ak,ao,aG,aH,aI,ae⟩:=aE.parts;obtain rfl:=ao.len;obtain rfl:=ak.len
 have a6:Hid (∀b,b<O e->∃g,V=some ⟨g,0,I⟩/\g<E (U w)/\∃i j k l m o al1 q,e[b]? =some (ai i j (J k l m) (J o al1 q)).toList/\∀s,s<4->w.cell? ⟨g,b*4+s,I⟩=(ai i j (J k l m) (J o al1 q))[s]?):=by
  intro b r;obtain⟨g,ap,L,hS,G,z⟩:=ao.nth (λA W=>af.four _ _ (ae A W)) r;obtain⟨rfl,rfl⟩:V=some ⟨g,0,I⟩/\ac=ap:=sU L;obtain⟨i,j,k,l,m,o,al1,q,aJ⟩:=af.cells _ (ae _ (List.getElem_mem r));refine⟨g,Q,G,i,j,k,l,m,o,al1,q,by rw[gG r,aJ],λs aq=>?_⟩;rw[z s aq,aJ];simp
 have a7:Hid (∀b,b<O ls->∃g X,T=some ⟨g,0,I⟩/\g<E (U w)/\w.cell? ⟨g,b,I⟩=some (vN X)):=by
  intro b r;obtain⟨a8,ap,L,aK,ar⟩:=ak;obtain⟨g,aL,hS,G,z⟩:=ar oM;obtain⟨rfl,-⟩:T=a8/\lc=ap:=sU L;refine⟨g,ls[b],aL,G,?_⟩;rw[z b oM];unfold aC;rw[List.getElem?_map,gG r];rfl
 have a9:Hid (∀(w':World),Below (E (U w)) w w'->∀A∈e,∀{i j:Int} {k:OA} {l m:Nat} {o:OA} {al1 q:Nat},A=(ai i j (J k l m) (J o al1 q)).toList->Calls Tryz.prog 95 #[.agg (ai i j (J k l m) (J o al1 q)),vN aD] w' (pM w' (λa=>S a/\a<E (U w)) D)):=by
  intro w' d A W i j k l m o al1 q L;subst L;have a':af (λa=>S a/\a<E (U w)) (Gd D) h w _:=af.weaken (λa d aK=>⟨d,aK⟩) _ _ (ae _ W);exact aF.out aD (af.frame (al.below d) d.size _ _ a')
 have ba:Hid (Gd D kind n (O ls) (O e)):=aI;have bK:O e<=30000:=aH;have bL:O ls<=30000:=aG;obtain⟨aM,aO,aP,aQ⟩:=np w (Ob (ai kind n (J T (O ls) lc) (J V (O e) ac)) 39) (Ob dF 39) (Ob (ai kind n (J I 0 0) (J I 0 0)) 39);have aR:yP w (ai kind n (J T (O ls) lc) (J V (O e) ac)) kind n _ I 0 []:=⟨aM,aO,aP,aQ,World.ownsRow_nil _ _ _ _⟩;clear aM aO aP aQ ak ao aG aH aI ae aE aF;go_enter Tryz.func95,Tryz.ntmps95
 go_wp2_with fail;go_loopg [7,18] (O ls) (λau _ av wr=>∃(b:Nat) (lo:OA) (y:Nat) (f:List Int),au=O ls - b/\av=vN b/\b<=O ls/\O f=b/\yP w (ai kind n (J T (O ls) lc) (J V (O e) ac)) kind n wr lo y f)
 case atStart=>exact⟨0,I,0,[],Q,Q,zL _,Q,aR⟩
 case round=>
  clear aR;obtain⟨b,lo,y,f,Y,rfl,aT,aU,c⟩:=hrel;have Z:Hid (gk=O ls - b):=Y;have H:Hid (O f=b):=aU;have aw:O f<=30000:=oM;clear Y aU;have bb:=c.pb.cell;have bc:=c.pb.fz;have bd:=c.pb.lt;have M:=c.ob.cell;have N:=c.ob.fz;have P:=c.ob.lt;by_cases r:b<O ls
  ·obtain⟨g,X,rfl,G,z⟩:=a7.out b r;have R:(b:Int)<(O ls:Int):=oM;have aV:wr.cell? ⟨g,b,I⟩=some (vN X):=(c.below.cell (p:=⟨g,b,I⟩) G).trans z;have bg:g<E (U wr):=oH c.below.size;clear z;by_cases ar:X>0
   ·go_wp2_with (at_builtin;refine bC 22 (v:=J lo (O f) y) (xv:=J (aS (E (U wr))) 1 1) rQ rQ rQ rQ (c.run _ aw _ Q) ?_;rintro aW aX ⟨ax,ay,rfl,t,aa⟩;have bh:=t.cell;have bi:=t.fz;have bj:=t.lt)
    go_roundg (O ls - (b+1))
    case measure=>rw[Z.out];omega
    case rel=>exact⟨b+1,ax,ay,_,Q,by go_num,r,by simp[H.out],aa⟩
   ·have bM:decide (X>0)=false:=sU ar;go_wp2_with (at_builtin;refine bC 22 (v:=J lo (O f) y) (xv:=J (aS (E (U wr))) 1 1) rQ rQ rQ rQ (c.run _ aw _ Q) ?_;rintro aW aX ⟨ax,ay,rfl,t,aa⟩;have bh:=t.cell;have bi:=t.fz;have bj:=t.lt)
    go_roundg (O ls - (b+1))
    case measure=>rw[Z.out];omega
    case rel=>exact⟨b+1,ax,ay,_,Q,by go_num,r,by simp[H.out],aa⟩
  ·have R:¬(b:Int)<(O ls:Int):=oM;have aY:decide ((b:Int)<(O ls:Int))=false:=sU R;have bk:Hid (O f=O ls):=by show _=_;have:=H.out;omega
   clear Z H;rename World=>W1
   have aZ:uG w W1 D S kind n W1 lo y f (J I 0 0) []:=⟨c.below,c.zb,c.ob,ro.bJ c.row (λa d=>⟨(c.row.lt a d).1,(c.row.lt a d).2⟩),⟨0,lC.nil W1 W1 (lR _) oM (λa d=>⟨oH d.2,oH d.2⟩)⟩,oM⟩;go_wp2_with fail;go_loopg [9,37] (O e) (λau _ av bl=>∃(b:Nat) (kv:Value) (vs:VV),au=O e - b/\av=vN b/\b<=O e/\O vs=b/\uG w W1 D S kind n bl lo y f kv vs)
   case atStart=>exact⟨0,J I 0 0,[],Q,Q,zL _,Q,aZ⟩
   case round=>
    clear aZ bb bc bd M N P r R aY c aT;obtain⟨b,kv,vs,Y,rfl,aT,a0,c⟩:=hrel;have Z:Hid (gk=O e - b):=Y;have H:Hid (O vs=b):=a0;have bm:O vs<=30000:=oM;clear Y a0
    obtain⟨B,C,rfl⟩:∃B C,kv=J B (O vs) C:=by
     obtain⟨a1,K⟩:=c.ty;exact K.shape
    have M:=c.ob.cell;have N:=c.ob.fz;have P:=c.ob.lt;have bn:=c.zb.cell;have bo:=c.zb.fz;have bp:=c.zb.lt;have bN:E (U w)+2≠E (U w)+1:=oM;have bO:E (U w)+1≠E (U w)+2:=oM;by_cases r:b<O e
    ·obtain⟨g,rfl,G,i,j,k,l,m,o,al1,q,a2,z⟩:=a6.out b r;have R:(b:Int)<(O e:Int):=oM;have bP:=c.below.size;have bg:g<E (U wr):=oM;have ab:∀s,s<4->wr.cell? ⟨g,b*4+s,I⟩=(ai i j (J k l m) (J o al1 q))[s]? :=λs aq=>(c.below.cell (p:=⟨g,b*4+s,I⟩) G).trans (z s aq);have aV:=ab 0 dC;have bR:=ab 1 dC;have aL:=ab 2 dC;have bS:=ab 3 dC;clear ab z;simp only[Nat.add_zero] at aV;have a3:Below (E (U wr)) wr (wr.alloc (Ob (ai i j (J k l m) (J o al1 q)) 39)).drew:=((Below.refl _ _).alloc (lR _) _).drew;have az:=c.step a3;have bq:Hid (e[b]? =some (ai i j (J k l m) (J o al1 q)).toList):=a2
     have br:∀a,(Value.slice B (O vs) C).ownBlock=some a->a<E (U (wr.alloc (Ob (ai i j (J k l m) (J o al1 q)) 39)).drew):=λa d=>by
      obtain⟨a1,K⟩:=az.ty;exact(K.row.lt a d).2
     have bs:=az.size;clear a2;go_wp2_with fail;go_region_law (first|(refine bf 36 (v:=J B (O vs) C) (xv:=J (aS (E (U bt))) 1 1) rQ rQ rQ rQ (ag.run br bs bu bm _ Q) ?_;rintro aW aX ⟨bv,bw,rfl,t,aa⟩;clear M N P;have M:=t.cell;have N:=t.fz;have P:=t.lt)|(go_simp;refine(a9.out _ (c.below.trans (a3.mono c.below.size)) _ (mG bq.out) Q).mono ?_;rintro L bt ⟨bT,bU,bV,bW,bX,bY,bZ,b0,b1,rfl,bx,bu⟩;have ag:=az.step bx;clear M N P bn bo bp;have M:=ag.ob.cell;have N:=ag.ob.fz;have P:=ag.ob.lt))
     all_goals
      go_wp2_with fail;go_roundg (O e - (b+1))
      case measure=>rw[Z.out];omega
      case rel=>exact⟨b+1,J bv (O vs+1) bw,_,Q,by go_num,r,by simp[H.out],aa⟩
    ·have R:¬(b:Int)<(O e:Int):=oM;have aY:decide ((b:Int)<(O e:Int))=false:=sU R;go_wp2_with fail;go_light;have bz:b=O e:=oM;have bA:O vs=O e:=by rw[H.out,bz]
     obtain⟨a1,K⟩:=c.ty;obtain⟨a4,bB⟩:=K.all;have b2:=c.l1;obtain⟨u,F⟩:∃u,u=bQ wr (E (U w)+1) (vN kind) (vN n) (J lo (O f) y) (J B (O vs) C):=⟨_,Q⟩
     have a5:∀a,a≠E (U w)+1->u.heap[a]? =wr.heap[a]? :=λa ah=>by
      rw[F];exact(Below.heap_setCell _ ⟨E (U w)+1,3,I⟩ _ _ ah).trans ((Below.heap_setCell _ ⟨E (U w)+1,2,I⟩ _ _ ah).trans ((Below.heap_setCell _ ⟨E (U w)+1,1,I⟩ _ _ ah).trans (Below.heap_setCell _ ⟨E (U w)+1,0,I⟩ _ _ ah)))
     have aj:E (U wr)<=E (U u):=by rw[F];simp
     have bD:aN u (E (U w)+1) (ai kind n (J lo (O f) y) (J B (O vs) C)):=by rw[F];exact aN.bQ c.zb _ _ _ _
     have bE:Below (E (U w)) w u:=by
      refine c.below.trans ⟨by rw[F];rfl,by rw[F];rfl,by rw[F];rfl,aj,λa d=>a5 a oM⟩
     suffices hh:bodyPost Tryz.prog Tryz.f95 (pM w S D) .ret _ u by rw[F] at hh;exact hh
     clear F;have aA:al (λa=>(S a/\a<E (U w))\/E (U w)+3<=a) wr u:=λa d _=>a5 a (by rcases d with d|d<;>omega);have bF:∀A∈vs,af (λa=>S a\/E (U w)<=a) (Gd D) a4 u A:=λA W=>af.weaken (λa d _=>d.imp (λx=>x.1) (λx=>by omega)) _ _ (af.frame aA aj _ _ (af.weaken (λa d _=>d.1.imp (λx=>x) (λx=>by omega)) _ _ (bB A W)));have bG:ro u (λa=>S a\/E (U w)<=a) 4 (J B (O vs) C) (O vs) vs.flatten:=((ro.bJ K.row (λa d=>(.inr (oH (K.row.lt a d).1)):∀a,_->(S a/\a<E (U w))\/E (U w)+3<=a)).frame aA aj).weaken (λa d _=>d.imp (λx=>x.1) (λx=>by omega));have bH:ro u (λa=>S a\/E (U w)<=a) 1 (J lo (O f) y) (O f) (aC f):=((c.lv.weaken (λa d _=>(.inr oM:(S a/\a<E (U w))\/E (U w)+3<=a))).frame aA aj).weaken (λa d _=>d.imp (λx=>x.1) (λx=>by omega));exact bodyPost_ret (dQ Tryz.results95 Q bD) Q ⟨kind,n,lo,O f,y,B,O vs,C,a4+1,Q,bE,kR bH bG aw oM (by rw[bk.out,bA];exact ba.out) bF⟩
theorem shift (D:Nat):∀h:Nat,uW D h
 |0=>λc a=>absurd a (λb=>b)
 |h+1=>uV (shift D h)
end
end Go.Proofs.YtcnnibahjmekdaaGreat
