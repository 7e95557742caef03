import Derived.Test.YtcnnibahjmekdaaGreatS27
namespace Go.Proofs.YtcnnibahjmekdaaGreat
open Go.RowKit
open Value renaming slice→J
open List renaming length→O
open Option renaming none→I
open World renaming heap→U
open _root_.Array renaming size→E
open Obj renaming cells→Ob
set_option linter.all false
set_option maxRecDepth 100000
set_option maxHeartbeats 0
theorem ub {h:Nat} (ar:bZ h) {w:World} {c:Nat} {K:CK} {M:MK} {T:Nat} {u:Nat->Prop} {W P B0:Nat} {how next one fk fa:Int} (j:Cx w c K M T u W P) (R:bP w c K how next one fk fa) (au:B0<=c) {pos t m:Int} {name:ByteArray} {g:Nat} {kc nl:Nat} {ks:VV} (x:GN h B0 w (aS g) kc ks nl) {kind n:Int} (av:(kind=4->0<=n/\n<(O M.ds:Int))/\kind≠5/\kind≠6/\kind≠7) (f:Nat) (aw:Int) (hl:f<=6100) (aP:nl<O ks) (bs:((O ks:Int) - (nl:Int) !=aw)=false) (bt:((nl:Int) !=0)=false) (bu:((nl:Int)==0)=true):
 Calls Tryz.prog 90 #[.pointer (some ⟨c,0,I⟩),.agg (ae 18 pos t m name (J (some ⟨g,0,I⟩) (O ks) kc)),.agg (ai kind n (J I 0 0) (J I 0 0)),.int .i64 f,.int .i64 aw] w (bS w c K how one u (O M.ds) ((1+(ks.map (aG h w)).sum)*P)):=by
 have ax:Hid (bZ h):=@ar;clear ar;have bv:=x.km;have bw:=x.uF;have bx:=x.tK;have aR:=j.z1;have aT:=R.lt;have X:Hid (Cx w c K M T (λb=>u b/\b<E (U w)) W P):=j.low;have ay:Hid (bP w c K how next one fk fa):=R;have o:Hid (GN h B0 w (aS g) kc ks nl):=x;obtain⟨Y,az,aB,aC⟩:=np w (Ob (ae 18 pos t m name (J (aS g) (O ks) kc)) 46) (Ob (ai kind n (J I 0 0) (J I 0 0)) 39) (Ob dF 39);have aD:GM w c K how one (ae 18 pos t m name (J (aS g) (O ks) kc)) kind n (((w.alloc (Ob (ae 18 pos t m name (J (aS g) (O ks) kc)) 46)).alloc (Ob (ai kind n (J I 0 0) (J I 0 0)) 39)).alloc (Ob dF 39)) I 0 [] next fk fa:=⟨Kp.aq Y,R.below Y,aT,az,aB,aC,World.ownsRow_nil _ _ _ _⟩;clear Y az aB aC j R x;have aU:Hid ((kind=4->0<=n/\n<(O M.ds:Int))/\kind≠5/\kind≠6/\kind≠7):=av;clear av;go_enter Tryz.func90,Tryz.ntmps90
 go_wp2_with fail;go_loopg [11] (O ks) (λZ aa wr=>∃d:Nat,Z=O ks - d/\aa=vN d/\d<=nl/\GM w c K how one (ae 18 pos t m name (J (aS g) (O ks) kc)) kind n wr I 0 [] next fk fa)
 case atStart=>exact⟨0,Q,Q,zL _,aD⟩
 case round=>
  clear aD;obtain⟨d,aE,rfl,aV,a⟩:=hrel;have aW:Hid (gk=O ks - d):=aE;clear aE;have y:=λq=>cell_of_row wr _ q _ 46 (0,0) a.nb;have z:E (U w)<E (U wr):=(gE a.nb).1;have A:=a.tb.cell;have B:=a.tb.fz;have C:=a.tb.lt;have D:=a.zb.cell;have F:=a.zb.fz;have G:=a.zb.lt;by_cases ab:d<nl
  ·obtain⟨ac,aX,aY,aZ,a0,a1,a2,a3,ad,-,af,a4,H,S,-⟩:=o.out.eH d oM;obtain rfl:g=ad:=sU af;obtain rfl:=S ab;have V:(d:Int)<(O ks:Int):=oM;have a5:wr.cell? ⟨g,d*11,I⟩=some (vN 19):=(a.k.cell (p:=⟨g,d*11,I⟩) (by show g<_;omega) (by show g≠c;omega)).trans (H 0 dC);have a6:g<E (U wr):=oM;clear H;go_wp2_with fail;go_roundg (O ks - (d+1))
   case measure=>rw[aW.out];omega
   case rel=>exact⟨d+1,Q,by go_num,ab,a⟩
  ·obtain rfl:nl=d:=oM;clear ab aV;obtain⟨ac,aX,aY,aZ,a0,a1,a2,a3,ad,-,af,a4,H,-,S⟩:=o.out.eH nl aP;obtain rfl:g=ad:=sU af
   have bz:(ac==19)=false:=by
    have:=S (lR _);have bA:=this.1;have bB:=this.2;exact eF oM
   have V:(nl:Int)<(O ks:Int):=oM;have a5:wr.cell? ⟨g,nl*11,I⟩=some (vN ac):=(a.k.cell (p:=⟨g,nl*11,I⟩) (by show g<_;omega) (by show g≠c;omega)).trans (H 0 dC);have a6:g<E (U wr):=oM;clear H S;go_wp2_with fail;go_loopg [12] f (λZ aa wr=>∃(e:Nat) (ag:OA) (ah:Nat) (k:List Int) (next fk fa:Int),Z=f - e/\aa=vN e/\e<=f/\O k=e/\GM w c K how one (ae 18 pos t m name (J (aS g) (O ks) kc)) kind n wr ag ah k next fk fa)
   case atStart=>exact⟨0,I,0,[],next,fk,fa,Q,Q,zL _,Q,a⟩
   case round=>
    clear a y z A B C D F G;obtain⟨e,ag,ah,k,next,fk,fa,aF,rfl,bC,aH,a⟩:=hrel;have a7:Hid (gk=f - e):=aF;have aI:Hid (O k=e):=aH;have a8:O k<=30000:=oM;clear aF aH;have y:=λq=>cell_of_row wr _ q _ 46 (0,0) a.nb;have z:E (U w)<E (U wr):=(gE a.nb).1;have A:=a.tb.cell;have B:=a.tb.fz;have C:=a.tb.lt;have D:=a.zb.cell;have F:=a.zb.fz;have G:=a.zb.lt;by_cases a9:e<f
    ·have V:(e:Int)<(f:Int):=oM;go_wp2_with fail;go_region_law (first|(refine bf 22 (v:=J ag (O k) ah) (xv:=J (aS (E (U aj))) 1 1) rQ rQ rQ rQ (i.run aJ a8 _ Q) ?_;rintro bD bE ⟨a',ba,rfl,ak,bb⟩;have bF:=ak.cell;have bG:=ak.fz;have bH:=ak.lt)|(go_simp;refine(fG a.drew.c ((X.out.step ay.out a.k).step a.c (Kp.refl _ _ _).drew).lv X.out.lf _ _).mono ?_;rintro bc aj ⟨aJ,bd,bg,bh,rfl,bi,bj,-⟩;have i:=a.drew.step bj bi;have y:=λq=>cell_of_row aj _ q _ 46 (0,0) i.nb;have z:E (U w)<E (U aj):=(gE i.nb).1;have A:=i.tb.cell;have B:=i.tb.fz;have C:=i.tb.lt;have D:=i.zb.cell;have F:=i.zb.fz;have G:=i.zb.lt))
     all_goals
      go_wp2_with fail;go_roundg (f - (e+1))
      case measure=>rw[a7.out];omega
      case rel=>exact⟨e+1,a',ba,k++[aJ],bd,bg,bh,Q,by go_num,a9,by simp[aI.out],sU bb⟩
    ·have V:¬(e:Int)<(f:Int):=oM;have bI:decide ((e:Int)<(f:Int))=false:=sU V;have bJ:(nl:Int)<=(O ks:Int):=oM;have bK:(O ks:Int)<=(kc:Int):=oM;have bk:O k<=6100:=oH aI.out;have L:al (λb=>b<B0) w wr:=λb N hl=>a.k.block b hl oM;have bl:Hid (∀ao r,O ks - nl=0->cZ B0 wr (J ao (O ks - nl) r) (ks.drop nl)):=λao r bm=>(o.out.u6 ao r bm).frame L oM;have bn:Hid (∀r,cZ B0 wr (J (some ⟨g,nl*11,I⟩) (O ks - nl) r) (ks.drop nl)):=λr=>(o.out.xV r).frame L oM;have aK:Hid (∀s∈ks.drop nl,isNode (λb=>b<B0) True h wr s/\cH (aA s)):=λs j=>⟨isNode.frame L _ _ (o.out.node s (List.mem_of_mem_drop j)),o.out.ty s j⟩;have bo:Hid (((ks.drop nl).map (aG h wr)).sum=((ks.drop nl).map (aG h w)).sum):=congrArg List.sum (List.map_congr_left (λs j=>aQ L _ _ (o.out.node s (List.mem_of_mem_drop j)) h));have ap:Hid (Cx wr c K M T (λb=>u b/\b<E (U w)) W P):=X.out.step ay.out a.k;clear L;go_wp2_with fail
     all_goals
      first
       |refine(fJ @ax.out ap.out a.c au (bn.out _) aK.out).mono ?_
       |refine(fJ @ax.out ap.out a.c au (bl.out _ _ oM) aK.out).mono ?_
      rintro bc aL ⟨bL,bM,bp,bN,bO,bQ,rfl,aM,aN,aO,aq⟩;rw[bo.out] at aq;have l:=a.step aO aN;have bq:O bp<=20000:=by rw[aM];simp;omega
      have br:=aq.mono (S1:=λb=>u b/\b<E (U w)) (λb N=>N.1) (λb N=>⟨ap.out.s0 b N,oI N.2 a.k.size⟩);clear y z A B C D F G aq aM;have y:=λq=>cell_of_row aL _ q _ 46 (0,0) l.nb;have z:E (U w)<E (U aL):=(gE l.nb).1;have A:=l.tb.cell;have B:=l.tb.fz;have C:=l.tb.lt;have D:=l.zb.cell;have F:=l.zb.fz;have G:=l.zb.lt;go_wp2_with fail;go_light;exact iE aU.out aR a bk aN aO bq br _ Q Q
theorem rM {h:Nat} (z:bZ h) {w:World} {c:Nat} {K:CK} {M:MK} {T:Nat} {l:Nat->Prop} {A o B0:Nat} {how next one fk fa:Int} (q:Cx w c K M T l A o) (j:bP w c K how next one fk fa) (aD:B0<=c) {pos e m:Int} {name:ByteArray} {g:Nat} {kc nl:Nat} {ks:VV} (f:GN h B0 w (aS g) kc ks nl) {kind n:Int} (B:(kind=4->0<=n/\n<(O M.ds:Int))/\kind≠5/\kind≠6/\kind≠7) (r:Nat) (R:Int) (hl:r<=6100) (S:nl<O ks) (aE:((nl:Int) !=0)=true) (aF:((nl:Int) !=(r:Int))=true):
 Calls Tryz.prog 90 #[.pointer (some ⟨c,0,I⟩),.agg (ae 18 pos e m name (J (some ⟨g,0,I⟩) (O ks) kc)),.agg (ai kind n (J I 0 0) (J I 0 0)),.int .i64 r,.int .i64 R] w (bS w c K how one l (O M.ds) ((1+(ks.map (aG h w)).sum)*o)):=by
 have aH:Hid (bZ h):=@z;clear z;have aI:=f.km;have aJ:=f.uF;have aK:=f.tK;have V:=q.z1;have W:=j.lt;have aL:Hid (Cx w c K M T (λC=>l C/\C<E (U w)) A o):=q.low;have aM:Hid (bP w c K how next one fk fa):=j;have D:Hid (GN h B0 w (aS g) kc ks nl):=f;obtain⟨s,F,G,H⟩:=np w (Ob (ae 18 pos e m name (J (aS g) (O ks) kc)) 46) (Ob (ai kind n (J I 0 0) (J I 0 0)) 39) (Ob dF 39);have L:GM w c K how one (ae 18 pos e m name (J (aS g) (O ks) kc)) kind n (((w.alloc (Ob (ae 18 pos e m name (J (aS g) (O ks) kc)) 46)).alloc (Ob (ai kind n (J I 0 0) (J I 0 0)) 39)).alloc (Ob dF 39)) I 0 [] next fk fa:=⟨Kp.aq s,j.below s,W,F,G,H,World.ownsRow_nil _ _ _ _⟩;clear s F G H q j f;have X:Hid ((kind=4->0<=n/\n<(O M.ds:Int))/\kind≠5/\kind≠6/\kind≠7):=B;clear B;go_enter Tryz.func90,Tryz.ntmps90
 go_wp2_with fail;go_loopg [11] (O ks) (λY Z wr=>∃a:Nat,Y=O ks - a/\Z=vN a/\a<=nl/\GM w c K how one (ae 18 pos e m name (J (aS g) (O ks) kc)) kind n wr I 0 [] next fk fa)
 case atStart=>exact⟨0,Q,Q,zL _,L⟩
 case round=>
  clear L;obtain⟨a,N,rfl,aa,b⟩:=hrel;have ab:Hid (gk=O ks - a):=N;clear N;have ac:=λt=>cell_of_row wr _ t _ 46 (0,0) b.nb;have ad:E (U w)<E (U wr):=(gE b.nb).1;have af:=b.tb.cell;have ag:=b.tb.fz;have ah:=b.tb.lt;have aj:=b.zb.cell;have ak:=b.zb.fz;have al:=b.zb.lt;by_cases u:a<nl
  ·obtain⟨v,ao,ap,aq,ar,au,av,aw,x,-,y,ax,i,k,-⟩:=D.out.eH a oM;obtain rfl:g=x:=sU y;obtain rfl:=k u;have ay:(a:Int)<(O ks:Int):=oM;have az:wr.cell? ⟨g,a*11,I⟩=some (vN 19):=(b.k.cell (p:=⟨g,a*11,I⟩) (by show g<_;omega) (by show g≠c;omega)).trans (i 0 dC);have aA:g<E (U wr):=oM;clear i;go_wp2_with fail;go_roundg (O ks - (a+1))
   case measure=>rw[ab.out];omega
   case rel=>exact⟨a+1,Q,by go_num,u,b⟩
  ·obtain rfl:nl=a:=oM;clear u aa;obtain⟨v,ao,ap,aq,ar,au,av,aw,x,-,y,ax,i,-,k⟩:=D.out.eH nl S;obtain rfl:g=x:=sU y
   have aN:(v==19)=false:=by
    have:=k (lR _);have aO:=this.1;have aP:=this.2;exact eF oM
   have ay:(nl:Int)<(O ks:Int):=oM;have az:wr.cell? ⟨g,nl*11,I⟩=some (vN v):=(b.k.cell (p:=⟨g,nl*11,I⟩) (by show g<_;omega) (by show g≠c;omega)).trans (i 0 dC);have aA:g<E (U wr):=oM;clear i k;go_wp2_with (go_at_call 89;refine(ft b.c _ _).mono ?_;rintro aQ P ⟨aR,aT,rfl,aB,aC,-⟩;have d:=b.step aC aB;have ac:=λt=>cell_of_row P _ t _ 46 (0,0) d.nb;have ad:E (U w)<E (U P):=(gE d.nb).1;have af:=d.tb.cell;have ag:=d.tb.fz;have ah:=d.tb.lt;have aj:=d.zb.cell;have ak:=d.zb.fz;have al:=d.zb.lt)
   all_goals
    go_light;exact eZ X.out V d _ Q Q
theorem rL {h:Nat} (y:bZ h) {w:World} {c:Nat} {K:CK} {M:MK} {T:Nat} {l:Nat->Prop} {z o B0:Nat} {how next one fk fa:Int} (q:Cx w c K M T l z o) (j:bP w c K how next one fk fa) (aD:B0<=c) {pos e m:Int} {name:ByteArray} {g:Nat} {kc nl:Nat} {ks:VV} (f:GN h B0 w (aS g) kc ks nl) {kind n:Int} (A:(kind=4->0<=n/\n<(O M.ds:Int))/\kind≠5/\kind≠6/\kind≠7) (B:Nat) (C:Int) (hl:B<=6100) (S:nl<O ks) (aE:((nl:Int) !=0)=false) (aF:((O ks:Int) - (nl:Int) !=C)=true):
 Calls Tryz.prog 90 #[.pointer (some ⟨c,0,I⟩),.agg (ae 18 pos e m name (J (some ⟨g,0,I⟩) (O ks) kc)),.agg (ai kind n (J I 0 0) (J I 0 0)),.int .i64 B,.int .i64 C] w (bS w c K how one l (O M.ds) ((1+(ks.map (aG h w)).sum)*o)):=by
 have aH:Hid (bZ h):=@y;clear y;have aI:=f.km;have aJ:=f.uF;have aK:=f.tK;have V:=q.z1;have W:=j.lt;have aL:Hid (Cx w c K M T (λD=>l D/\D<E (U w)) z o):=q.low;have aM:Hid (bP w c K how next one fk fa):=j;have F:Hid (GN h B0 w (aS g) kc ks nl):=f;obtain⟨r,G,H,L⟩:=np w (Ob (ae 18 pos e m name (J (aS g) (O ks) kc)) 46) (Ob (ai kind n (J I 0 0) (J I 0 0)) 39) (Ob dF 39);have N:GM w c K how one (ae 18 pos e m name (J (aS g) (O ks) kc)) kind n (((w.alloc (Ob (ae 18 pos e m name (J (aS g) (O ks) kc)) 46)).alloc (Ob (ai kind n (J I 0 0) (J I 0 0)) 39)).alloc (Ob dF 39)) I 0 [] next fk fa:=⟨Kp.aq r,j.below r,W,G,H,L,World.ownsRow_nil _ _ _ _⟩;clear r G H L q j f;have X:Hid ((kind=4->0<=n/\n<(O M.ds:Int))/\kind≠5/\kind≠6/\kind≠7):=A;clear A;go_enter Tryz.func90,Tryz.ntmps90
 go_wp2_with fail;go_loopg [11] (O ks) (λY Z wr=>∃a:Nat,Y=O ks - a/\Z=vN a/\a<=nl/\GM w c K how one (ae 18 pos e m name (J (aS g) (O ks) kc)) kind n wr I 0 [] next fk fa)
 case atStart=>exact⟨0,Q,Q,zL _,N⟩
 case round=>
  clear N;obtain⟨a,P,rfl,aa,b⟩:=hrel;have ab:Hid (gk=O ks - a):=P;clear P;have ac:=λs=>cell_of_row wr _ s _ 46 (0,0) b.nb;have ad:E (U w)<E (U wr):=(gE b.nb).1;have af:=b.tb.cell;have ag:=b.tb.fz;have ah:=b.tb.lt;have aj:=b.zb.cell;have ak:=b.zb.fz;have al:=b.zb.lt;by_cases t:a<nl
  ·obtain⟨u,ao,ap,aq,ar,au,av,aw,v,-,x,ax,i,k,-⟩:=F.out.eH a oM;obtain rfl:g=v:=sU x;obtain rfl:=k t;have ay:(a:Int)<(O ks:Int):=oM;have az:wr.cell? ⟨g,a*11,I⟩=some (vN 19):=(b.k.cell (p:=⟨g,a*11,I⟩) (by show g<_;omega) (by show g≠c;omega)).trans (i 0 dC);have aA:g<E (U wr):=oM;clear i;go_wp2_with fail;go_roundg (O ks - (a+1))
   case measure=>rw[ab.out];omega
   case rel=>exact⟨a+1,Q,by go_num,t,b⟩
  ·obtain rfl:nl=a:=oM;clear t aa;obtain⟨u,ao,ap,aq,ar,au,av,aw,v,-,x,ax,i,-,k⟩:=F.out.eH nl S;obtain rfl:g=v:=sU x
   have aN:(u==19)=false:=by
    have:=k (lR _);have aO:=this.1;have aP:=this.2;exact eF oM
   have ay:(nl:Int)<(O ks:Int):=oM;have az:wr.cell? ⟨g,nl*11,I⟩=some (vN u):=(b.k.cell (p:=⟨g,nl*11,I⟩) (by show g<_;omega) (by show g≠c;omega)).trans (i 0 dC);have aA:g<E (U wr):=oM;clear i k;go_wp2_with (go_at_call 89;refine(ft b.c _ _).mono ?_;rintro aQ R ⟨aR,aT,rfl,aB,aC,-⟩;have d:=b.step aC aB;have ac:=λs=>cell_of_row R _ s _ 46 (0,0) d.nb;have ad:E (U w)<E (U R):=(gE d.nb).1;have af:=d.tb.cell;have ag:=d.tb.fz;have ah:=d.tb.lt;have aj:=d.zb.cell;have ak:=d.zb.fz;have al:=d.zb.lt)
   all_goals
    go_light;exact eZ X.out V d _ Q Q
section
variable{mb:Nat} {S:Nat->Prop} {w:World}
theorem af.args {G:Int->Int->Nat->Nat->Prop} {h:Nat} {kind n:Int} {lv:Value} {o:OA} {p u:Nat} (x:af S G (h+1) w (ai kind n lv (J o p u)).toList):∃a:VV,p=O a/\O a<=30000/\(∀q,aU (q+1) w (ai kind n lv (J o p u)).toList=1+(a.map (aU q w)).sum)/\(∀r∈a,af S G h w r)/\∀c,c<O a->∃g d e f i j k al1 l,o=some ⟨g,0,I⟩/\g<E (U w)/\a[c]? =some (ai d e (J f i j) (J k al1 l)).toList/\∀b,b<4->w.cell? ⟨g,c*4+b,I⟩=(ai d e (J f i j) (J k al1 l))[b]? :=by
 obtain⟨F,a,H,s,K,y,L,m⟩:=x.parts;refine⟨a,s.len,y,λq=>gQ s m,m,λc t=>?_⟩;obtain⟨g,M,z,hS,A,B⟩:=s.nth (λr C=>af.four _ _ (m r C)) t;obtain⟨d,e,f,i,j,k,al1,l,v⟩:=af.cells _ (m _ (List.getElem_mem t));refine⟨g,d,e,f,i,j,k,al1,l,(Value.slice.inj z).1,A,by rw[gG t,v],λb D=>?_⟩;rw[B b D,v];simp
def qz (w:World) (e:Ending) (w':World):Prop:=∃r:Int,e=.returned (vN r)/\Below (E (U w)) w w'
theorem nJ {G:Int->Int->Nat->Nat->Prop} (p:Int):(h:Nat)->∀{w:World} {d f:Int} {i:Value} {e:OA} {s j:Nat},af S G h w (ai d f i (J e s j)).toList->Calls Tryz.prog 93 #[.agg (ai d f i (J e s j)),vN p] w (qz w)
 |0,_,_,_,_,_,_,_,hn=>absurd hn (λx=>x)
 |h+1,w,d,f,i,e,s,j,hn=>by
  have M:Hid (∀{w:World} {d f:Int} {i:Value} {e:OA} {s j:Nat},af S G h w (ai d f i (J e s j)).toList->Calls Tryz.prog 93 #[.agg (ai d f i (J e s j)),vN p] w (qz w)):=nJ p h;obtain⟨b,rfl,ac,-,z,A⟩:=hn.args;have B:Hid ((∀x∈b,af S G h w x)/\∀a,a<O b->∃g k l m n o q al1 r,e=some ⟨g,0,I⟩/\g<E (U w)/\b[a]? =some (ai k l (J m n o) (J q al1 r)).toList/\∀c,c<4->w.cell? ⟨g,a*4+c,I⟩=(ai k l (J m n o) (J q al1 r))[c]?):=⟨z,A⟩;clear hn z A;obtain⟨y,N⟩:=al1 w (Ob (ai d f i (J e (O b) j)) 39)
  cases ad:(d==5)
  ·go_enter Tryz.func93,Tryz.ntmps93
   go_wp2_with fail;go_loopg [5,7,18] (O b) (λP R _ T wr=>∃(a:Nat) (C:Int),P=O b - a/\T=vN a/\R=vN C/\a<=O b/\Below (E (U w)) w wr)
   case atStart=>exact⟨0,0,Q,Q,Q,zL _,y⟩
   case round=>
    clear y N;obtain⟨a,C,D,rfl,rfl,ae,t⟩:=hrel;have V:Hid (gk=O b - a):=D;clear D;by_cases F:a<O b
    ·have H:(a:Int)<(O b:Int):=oM;obtain⟨g,k,l,m,n,o,q,al1,r,rfl,W,K,L⟩:=B.out.2 a F;have u:∀c,c<4->wr.cell? ⟨g,a*4+c,I⟩=(ai k l (J m n o) (J q al1 r))[c]? :=λc X=>(t.cell (p:=⟨g,a*4+c,I⟩) W).trans (L c X);have Y:=u 0 dC;have ag:=u 1 dC;have ah:=u 2 dC;have aj:=u 3 dC;simp only[Nat.add_zero] at Y;have ak:g<E (U wr):=oH t.size;have v:Below (E (U w)) w (wr.alloc (Ob (ai k l (J m n o) (J q al1 r)) 39)):=t.alloc t.size _;have Z:Hid (af S G h (wr.alloc (Ob (ai k l (J m n o) (J q al1 r)) 39)) (ai k l (J m n o) (J q al1 r)).toList):=af.frame (al.below v) v.size _ _ (B.out.1 _ (mG K));clear u L K;go_wp2_with fail;refine(M.out Z.out).mono ?_;rintro ao ap ⟨aq,rfl,aa⟩;have ab:=v.trans (aa.mono v.size);go_wp2_with fail;go_roundg (O b - (a+1))
     case measure=>rw[V.out];omega
     case rel=>exact⟨a+1,_,Q,by go_num,Q,F,ab⟩
    ·have H:¬(a:Int)<(O b:Int):=oM;have ar:decide ((a:Int)<(O b:Int))=false:=sU H;go_wp2_with fail;go_ret;exact⟨_,Q,t⟩
  ·go_enter Tryz.func93,Tryz.ntmps93
   go_wp2_with fail
   all_goals
    go_ret;exact⟨_,Q,y⟩
abbrev MK.bt (M:MK) (k a:Int):MK:={M with fk:=k,fa:=a}
def cF (w:World) (mb:Nat) (M:MK):Prop:=w.heap[mb]? =some (Ob (jO M) 88 (0,0))
theorem cF.lt {M:MK} (h:cF w mb M):mb<E (U w):=(gE h).1
theorem cF.cell {M:MK} (h:cF w mb M) (o:Nat):w.cell? ⟨mb,o,I⟩=(jO M)[o]? :=cell_of_row w mb o _ 88 (0,0) h
theorem cF.fz {M:MK} (h:cF w mb M) (o:Nat):w.frozen? ⟨mb,o,I⟩=false:=frozen_of_row w mb o _ 88 h
theorem bN {M:MK} (h:cF w mb M):Calls Tryz.prog 35 #[.pointer (aS mb)] w (λa b=>a=.returned (.bool (M.fk==0))/\b=w):=by
 have c:=h.cell;have d:=h.lt;go_enter Tryz.func35,Tryz.ntmps35
 go_wp2_with fail;go_ret;exact⟨Q,Q⟩
def uy (w:World) (mb:Nat) (M:MK) (e:Ending) (w':World):Prop:=
 ∃k' a',e=.returned (.tuple #[])/\cF w' mb (M.bt k' a')/\Kp (E (U w)) mb w w'/\(M.fk≠0->k'=M.fk)
theorem bY {M:MK} (h:cF w mb M) (k a:Int):Calls Tryz.prog 45 #[.pointer (aS mb),vN k,vN a] w (λc d=>uy w mb M c d/\(k≠0->∃e j,e≠0/\cF d mb (M.bt e j))):=by
 have o:=h.cell;have q:=h.fz;have r:=h.lt
 cases f:(M.fk==0)
 ·go_enter Tryz.func45,Tryz.ntmps45
  go_wp2_with (go_at_call 35;refine(bN h).mono ?_;rintro c b ⟨rfl,rfl⟩)
  go_end0;exact⟨⟨M.fk,M.fa,Q,h,Kp.refl _ _ _,λ_=>rfl⟩,λ_=>⟨M.fk,M.fa,sU f,h⟩⟩
 ·go_enter Tryz.func45,Tryz.ntmps45
  go_wp2_with (go_at_call 35;refine(bN h).mono ?_;rintro c b ⟨rfl,rfl⟩)
  go_end0;have l:cF (b.setCell ⟨mb,7,I⟩ (vN k)) mb (M.bt k M.fa):=heap_setCell_same b mb 7 _ 88 _ h;have i:cF ((b.setCell ⟨mb,7,I⟩ (vN k)).setCell ⟨mb,8,I⟩ (vN a)) mb (M.bt k a):=heap_setCell_same _ mb 8 _ 88 _ l;exact⟨⟨k,a,Q,i,(((Kp.refl _ _ _).setCell (p:=⟨mb,7,I⟩) (.inr Q) _).setCell (p:=⟨mb,8,I⟩) (.inr Q) _),λm=>absurd (sU f) m⟩,λn=>⟨k,a,n,i⟩⟩
end
section
variable{S:Nat->Prop} {w:World}
theorem o7 {P:Program} (base t d e:Nat) (i:TypeInfo) (size c:Nat) (a:P.underlying t=some (.slice e)) (b:P.info? e=some i) (v:Value) (n:Nat) (xs:List Value) (f:w.ownsRow base e size v n xs):(Builtin.append_ #[t,t] d #[v,J I 0 c]).run P w=.ok v w:=by
 rcases f.2 with⟨rfl,rfl⟩|⟨g,cap,cur,rfl,_,_,hnc,_⟩
 ·simp[Builtin.append_,run_underlying a,sizeOf,typeInfo,b,Builtin.lenOf,Builtin.firstCells]
 ·simp[Builtin.append_,run_underlying a,sizeOf,typeInfo,b,Builtin.lenOf,Builtin.firstCells,hnc,storeCells]
theorem jn {W:World} {l:OA} {m:Nat} {ls a:List Int} (n:W.ownsRow (E (U w)) 3 1 (J l (O ls) m) (O ls) (aC ls)) (b:Below (E (U w)) w W) {x:Value} (F:ro W S 1 x (O a) (aC a)) (ac:O ls+O a<=17592186044416) (p:TypeId):
 ∃o i,(Builtin.append_ #[22,22] p #[J l (O ls) m,x]).run Tryz.prog W=.ok o i/\∃d e,o=J d (O (ls++a)) e/\i.ownsRow (E (U w)) 3 1 (J d (O (ls++a)) e) (O (ls++a)) (aC (ls++a))/\Below (E (U w)) w i:=by
 obtain⟨v,z,G,H,K⟩:=info_parts rF;obtain⟨L,A,rfl,B,C⟩:=F
 cases L with
 |none=>
  have M:a=[]:=by
   rcases Nat.eq_zero_or_pos (O a) with q|q
   ·exact List.eq_nil_of_length_eq_zero q
   ·obtain⟨g,j,_⟩:=C q;exact absurd j sQ
  subst M;exact⟨_,W,o7 (P:=Tryz.prog) (E (U w)) 22 p 3 v 1 A Tryz.underlying22 z _ _ _ n,l,m,sQ,sU n,b⟩
 |some r=>
  have N:∀c f,(aC a)[c]? =some f->W.cell? (r.add c)=some f:=by
   intro c f D
   have ad:c<O a:=by
    have:=(gS D).1;rw[B] at this;omega
   obtain⟨g,j,_,ae,R⟩:=C oM;obtain rfl:r=⟨g,0,I⟩:=Option.some.inj j;have T:(⟨g,0,I⟩:Addr).add c=⟨g,c,I⟩:=by unfold Addr.add;split<;>simp_all
   rw[T];exact(R c oM).trans D
  have one:∀f∈aC a,f.oneCell'=true:=by
   intro f V;obtain⟨x,_,rfl⟩:=List.mem_map.1 V;rfl
  obtain⟨o,i,X,s,k,_,af⟩:=run_append_own_at (P:=Tryz.prog) W (E (U w)) 22 p 3 v _ 1 8 Tryz.underlying22 z G H K Q dC (J l (O ls) m) (O ls) (aC ls) n r (O a) A (aC a) B N one (by unfold maxLen;omega) oM b.size;have Y:aC ls++aC a=aC (ls++a):=by simp[aC]
  have Z:O (ls++a)=O ls+O a:=sQ;rw[Y,<-Z] at s
  obtain⟨d,e,rfl⟩:∃d e,o=J d (O (ls++a)) e:=by
   rcases s.2 with⟨t,aa⟩|⟨x,y,zz,t,_⟩
   ·exact⟨I,0,by rw[t,aa]⟩
   ·exact⟨_,_,t⟩
  exact⟨_,i,X,d,e,Q,s,⟨k.os.trans b.os,k.tape.trans b.tape,k.output.trans b.output,lT b.size k.size,λu ab=>(k.block u (oH b.size) (λj=>oH (n.lt u j.symm).1)).trans (b.block u ab)⟩⟩
def uA (w:World) (N:Nat) (e:Ending) (w':World):Prop:=
 ∃(ao:OA) (cp:Nat) (ls:List Int),e=.returned (J ao (O ls) cp)/\w'.ownsRow (E (U w)) 3 1 (J ao (O ls) cp) (O ls) (aC ls)/\O ls<=N/\Below (E (U w)) w w'
theorem di {f:List Value->Nat} (a:VV) (i:Nat):((a.take i).map f).sum<=(a.map f).sum:=by
 conv=>rhs;rw[<-List.take_append_drop i a]
 rw[List.map_append,List.sum_append];omega
theorem mL {G:Int->Int->Nat->Nat->Prop} (aj:∀k n nl na,G k n nl na->nl<=6100):(h:Nat)->∀{w:World} {i n:Int} {c:OA} {x d:Nat} {e:OA} {y j:Nat},af S G h w (ai i n (J c x d) (J e y j)).toList->6100*aU h w (ai i n (J c x d) (J e y j)).toList<=17592186044416->Calls Tryz.prog 91 #[.agg (ai i n (J c x d) (J e y j))] w (uA w (6100*aU h w (ai i n (J c x d) (J e y j)).toList))
 |0,_,_,_,_,_,_,_,_,_,hn,_=>absurd hn (λR=>R)
 |h+1,w,i,n,c,x,d,e,y,j,hn,hX=>by
  have aQ:Hid (∀{w:World} {i n:Int} {c:OA} {x d:Nat} {e:OA} {y j:Nat},af S G h w (ai i n (J c x d) (J e y j)).toList->6100*aU h w (ai i n (J c x d) (J e y j)).toList<=17592186044416->Calls Tryz.prog 91 #[.agg (ai i n (J c x d) (J e y j))] w (uA w (6100*aU h w (ai i n (J c x d) (J e y j)).toList))):=mL aj h;obtain⟨u,_,T,_,_,_,ak,_⟩:=hn.parts;have bh:=aj _ _ _ _ ak;obtain rfl:=T.len;obtain⟨a,rfl,bi,V,ao,ap⟩:=hn.args;have V:=V h;rw[V] at hX⊢;have aq:Hid ((∀R∈a,af S G h w R)/\∀b,b<O a->∃g l m o q r M al1 s,e=some ⟨g,0,I⟩/\g<E (U w)/\a[b]? =some (ai l m (J o q r) (J M al1 s)).toList/\∀t,t<4->w.cell? ⟨g,b*4+t,I⟩=(ai l m (J o q r) (J M al1 s))[t]?):=⟨ao,ap⟩;have ar:Hid (6100*(1+(a.map (aU h w)).sum)<=17592186044416):=hX;obtain⟨C,au⟩:=al1 w (Ob (ai i n (J c (O u) d) (J e (O a) j)) 39);have av:=T.frame (al.below C) C.size;have aR:E (U (w.alloc (Ob (ai i n (J c (O u) d) (J e (O a) j)) 39)))=E (U w)+1:=sQ;have W:Hid (∀{X:World},Below (E (U (w.alloc (Ob (ai i n (J c (O u) d) (J e (O a) j)) 39)))) (w.alloc (Ob (ai i n (J c (O u) d) (J e (O a) j)) 39)) X->X.heap[E (U w)]? =some (Ob (ai i n (J c (O u) d) (J e (O a) j)) 39 (0,0))/\Below (E (U w)) w X):=λB=>⟨(B.block _ oM).trans au,C.trans (B.mono C.size)⟩;clear hn ao ap hX T ak C au aR;go_enter Tryz.func91,Tryz.ntmps91
  go_wp2_with (at_builtin;refine bC 22 (v:=J I 0 0) (xv:=J c (O u) d) rQ rQ rQ rQ (jn (w:=(w.alloc (Ob (ai i n (J c (O u) d) (J e (O a) j)) 39))) (ls:=[]) (World.ownsRow_nil _ _ _ _) (Below.refl _ _) av (by simp;omega) _) ?_;rintro aS aw ⟨M,aT,rfl,ax,N⟩;have aV:=λt=>cell_of_row aw _ t _ 39 (0,0) (W.out N).1;have aW:E (U w)<E (U aw):=(gE (W.out N).1).1)
  clear aV aW;go_loopg [3,5,13] (O a) (λaX v _ aY wr=>∃(b:Nat) (D:OA) (F:Nat) (ls:List Int),aX=O a - b/\aY=.int .i64 b/\v=J D (O ls) F/\b<=O a/\wr.ownsRow (E (U (w.alloc (Ob (ai i n (J c (O u) d) (J e (O a) j)) 39)))) 3 1 (J D (O ls) F) (O ls) (aC ls)/\O ls<=6100*(1+((a.take b).map (aU h w)).sum)/\Below (E (U (w.alloc (Ob (ai i n (J c (O u) d) (J e (O a) j)) 39)))) (w.alloc (Ob (ai i n (J c (O u) d) (J e (O a) j)) 39)) wr)
  case atStart=>exact⟨0,M,aT,u,Q,Q,sQ,zL _,sU ax,by simp;omega,N⟩
  case round=>
   clear ax N av;obtain⟨b,D,F,ls,ay,rfl,rfl,bj,az,aA,B⟩:=hrel;have aZ:Hid (gk=O a - b):=ay;have Y:Hid (O ls<=6100*(1+((a.take b).map (aU h w)).sum)):=aA;have H:=(W.out B).2;clear ay aA;by_cases aB:b<O a
   ·have aD:(b:Int)<(O a:Int):=oM;obtain⟨g,l,m,o,q,r,z,al1,s,rfl,a0,Z,aE⟩:=aq.out.2 b aB;have K:∀t,t<4->wr.cell? ⟨g,b*4+t,I⟩=(ai l m (J o q r) (J z al1 s))[t]? :=λt a1=>(H.cell (p:=⟨g,b*4+t,I⟩) a0).trans (aE t a1);have a2:=K 0 dC;have bk:=K 1 dC;have bl:=K 2 dC;have bm:=K 3 dC;simp only[Nat.add_zero] at a2;have bn:g<E (U wr):=oH H.size;have P:Below (E (U w)) w (wr.alloc (Ob (ai l m (J o q r) (J z al1 s)) 39)):=H.alloc H.size _;have aa:=aq.out.1 _ (mG Z);have a3:Hid (af S G h (wr.alloc (Ob (ai l m (J o q r) (J z al1 s)) 39)) (ai l m (J o q r) (J z al1 s)).toList):=af.frame (al.below P) P.size _ _ aa;obtain⟨L,ab⟩:∃L,aU h w (ai l m (J o q r) (J z al1 s)).toList=L:=⟨_,Q⟩;have aF:Hid (aU h (wr.alloc (Ob (ai l m (J o q r) (J z al1 s)) 39)) (ai l m (J o q r) (J z al1 s)).toList=L):=(aJ (al.below P) P.size _ _ aa h).trans ab
    have ac:Hid (((a.take (b+1)).map (aU h w)).sum=((a.take b).map (aU h w)).sum+L):=by
     show _=_;rw[List.take_add_one,Z,List.map_append,List.sum_append,<-ab];simp
    have aG:Hid (((a.take (b+1)).map (aU h w)).sum<=(a.map (aU h w)).sum):=di a _;have a4:=ag az (w':=wr.alloc (Ob (ai l m (J o q r) (J z al1 s)) 39)) (λaH _ ad=>Below.heap_alloc _ _ _ ad);have aI:=B.alloc B.size (Ob (ai l m (J o q r) (J z al1 s)) 39);clear K aE Z aa ab;go_wp2_with fail;refine(aQ.out a3.out (by rw[aF.out];have ae:=ac.out;have aK:=aG.out;have a5:=ar.out;omega)).mono ?_;rintro bo aL ⟨aM,aN,A,rfl,a6,ah,aO⟩;rw[aF.out] at ah;have aP:Hid (O A<=6100*L):=ah;clear ah;have a7:=ag a4 (w':=aL) (λaH _ ad=>aO.block aH ad);have a8:=aI.trans (aO.mono aI.size);have a9:ro aL (λ_=>True) 1 (J aM (O A) aN) (O A) (aC A):=ro.bJ a6 (λ_ _=>trivial);have a':O ls+O A<=17592186044416:=by have ae:=ac.out;have aK:=aG.out;have a5:=ar.out;have ba:=Y.out;have bb:=aP.out;omega
    go_wp2_with (at_builtin;refine bC 22 (v:=J D (O ls) F) (xv:=J aM (O A) aN) rQ rQ rQ rQ (jn a7 a8 a9 a' _) ?_;rintro aS bp ⟨bc,bd,rfl,bf,bg⟩)
    go_roundg (O a - (b+1))
    case measure=>rw[aZ.out];omega
    case rel=>exact⟨b+1,bc,bd,ls++A,Q,by go_num,sQ,aB,bf,by have ae:=ac.out;have ba:=Y.out;have bb:=aP.out;rw[List.length_append];omega,bg⟩
   ·have aD:¬(b:Int)<(O a:Int):=oM;have bq:decide ((b:Int)<(O a:Int))=false:=sU aD;go_wp2_with fail;go_ret;refine⟨D,F,ls,Q,eL az sQ,?_,H⟩;have ae:=di (f:=aU h w) a b;have aK:=Y.out;omega
end
section
variable{x y:Int}
def lD (w:World) (D N:Nat) (e:Ending) (w':World):Prop:=
 ∃(ao:OA) (cp:Nat) (ls:List Int),e=.returned (J ao (O ls) cp)/\w'.ownsRow (E (U w)) 3 1 (J ao (O ls) cp) (O ls) (aC ls)/\O ls<=N/\(∀y∈ls,0<=y/\y<(D:Int))/\Below (E (U w)) w w'
theorem yY (h:x≠y):(x !=y)=true:=sU h
theorem yV (h:x=y):(x==y)=true:=by simp[h]
theorem zR (h:x=y):(x !=y)=false:=by simp[h]
theorem ot (h:x≠y):(x==y)=false:=sU h
theorem tW {S:Nat->Prop} {D:Nat}:(h:Nat)->∀{w:World} {c a:Int} {e:OA} {i j:Nat} {d:OA} {u k:Nat},af S (Gd D) h w (ai c a (J e i j) (J d u k)).toList->aU h w (ai c a (J e i j) (J d u k)).toList<=17592186044416->Calls Tryz.prog 52 #[.agg (ai c a (J e i j) (J d u k))] w (lD w D (aU h w (ai c a (J e i j) (J d u k)).toList))
 |0,_,_,_,_,_,_,_,_,_,hn,_=>absurd hn (λx=>x)
 |h+1,w,c,a,e,i,j,d,u,k,hn,hX=>by
  have aY:Hid (∀{w:World} {c a:Int} {e:OA} {i j:Nat} {d:OA} {u k:Nat},af S (Gd D) h w (ai c a (J e i j) (J d u k)).toList->aU h w (ai c a (J e i j) (J d u k)).toList<=17592186044416->Calls Tryz.prog 52 #[.agg (ai c a (J e i j) (J d u k))] w (lD w D (aU h w (ai c a (J e i j) (J d u k)).toList))):=tW h;obtain⟨bv,_,_,_,_,_,av,_⟩:=hn.parts;have aZ:=av.2.1;obtain⟨b,rfl,bw,R,aw,ax⟩:=hn.args;have R:=R h;rw[R] at hX⊢;have ay:Hid ((∀x∈b,af S (Gd D) h w x)/\∀l,l<O b->∃g m n o q r T al1 s,d=some ⟨g,0,I⟩/\g<E (U w)/\b[l]? =some (ai m n (J o q r) (J T al1 s)).toList/\∀t,t<4->w.cell? ⟨g,l*4+t,I⟩=(ai m n (J o q r) (J T al1 s))[t]?):=⟨aw,ax⟩;have az:Hid (1+(b.map (aU h w)).sum<=17592186044416):=hX;obtain⟨V,aA⟩:=al1 w (Ob (ai c a (J e i j) (J d (O b) k)) 39);have a0:E (U (w.alloc (Ob (ai c a (J e i j) (J d (O b) k)) 39)))=E (U w)+1:=sQ;have Z:Hid (∀{aa:World},Below (E (U (w.alloc (Ob (ai c a (J e i j) (J d (O b) k)) 39)))) (w.alloc (Ob (ai c a (J e i j) (J d (O b) k)) 39)) aa->aa.heap[E (U w)]? =some (Ob (ai c a (J e i j) (J d (O b) k)) 39 (0,0))/\Below (E (U w)) w aa):=λG=>⟨(G.block _ oM).trans aA,V.trans (G.mono V.size)⟩;have aB:Hid (lD w D (1+(b.map (aU h w)).sum) (.returned (J I 0 0)) (w.alloc (Ob (ai c a (J e i j) (J d (O b) k)) 39))):=⟨I,0,[],Q,World.ownsRow_nil _ _ _ _,zL _,(λy F=>by cases F),V⟩;clear hn aw ax hX av V aA a0 R;by_cases a1:c=6\/c=7\/c=8
  ·rcases a1 with rfl|rfl|rfl
   all_goals
    go_enter Tryz.func52,Tryz.ntmps52
    go_wp2_with fail;go_ret;exact aB.out
  ·have bx:(c==6)=false:=ot oM;have bz:(c==7)=false:=ot oM;have bA:(c==8)=false:=ot oM;by_cases K:c=4
   case' pos=>
    have ab:(c==9)=false:=ot oM;have a2:=aZ K;have a3:(c==4)=true:=yV K;clear K
    have W:ro ((w.alloc (Ob (ai c a (J e i j) (J d (O b) k)) 39)).alloc (Ob #[vN a] 3)) (λ_=>True) 1 (J (aS (E (U (w.alloc (Ob (ai c a (J e i j) (J d (O b) k)) 39))))) 1 1) [a].length (aC [a]):=⟨_,_,Q,Q,λ_=>⟨_,Q,trivial,sQ,λa4 a5=>by
     obtain rfl:a4=0:=sU a5;rw[cell_of_row _ (E (U (w.alloc (Ob (ai c a (J e i j) (J d (O b) k)) 39)))) 0 #[vN a] 3 (0,0) (heap_alloc_new (w.alloc (Ob (ai c a (J e i j) (J d (O b) k)) 39)) _)];rfl⟩⟩
    have ac:E (U (w.alloc (Ob (ai c a (J e i j) (J d (O b) k)) 39)))=E (U w)+1:=sQ;have W:ro ((w.alloc (Ob (ai c a (J e i j) (J d (O b) k)) 39)).alloc (Ob #[vN a] 3)) (λ_=>True) 1 (J (aS (E (U w)+1)) 1 1) [a].length (aC [a]):=by rw[<-ac];exact W
    clear ac;go_enter Tryz.func52,Tryz.ntmps52
    go_wp2_with (at_builtin;refine bC 22 (v:=J I 0 0) (xv:=J (aS (E (U w)+1)) 1 1) rQ rQ rQ rQ (jn (w:=(w.alloc (Ob (ai c a (J e i j) (J d (O b) k)) 39))) (ls:=[]) (World.ownsRow_nil _ _ _ _) (al1 _ _).1 W sQ _) ?_;rintro a6 aD ⟨T,a7,rfl,aE,X⟩;have a8:=λt=>cell_of_row aD _ t _ 39 (0,0) (Z.out X).1;have a9:E (U w)<E (U aD):=(gE (Z.out X).1).1)
    clear a8 a9;go_loopg [3,5,37] (O b) (λad v _ ae wr=>∃(l:Nat) (A:OA) (B:Nat) (ls:List Int),ad=O b - l/\ae=.int .i64 l/\v=J A (O ls) B/\l<=O b/\wr.ownsRow (E (U (w.alloc (Ob (ai c a (J e i j) (J d (O b) k)) 39)))) 3 1 (J A (O ls) B) (O ls) (aC ls)/\(O ls<=1+((b.take l).map (aU h w)).sum/\∀y∈ls,0<=y/\y<(D:Int))/\Below (E (U (w.alloc (Ob (ai c a (J e i j) (J d (O b) k)) 39)))) (w.alloc (Ob (ai c a (J e i j) (J d (O b) k)) 39)) wr)
    case atStart=>exact⟨0,T,a7,[a],Q,Q,sQ,zL _,sU aE,⟨sQ,λy F=>(List.mem_singleton.1 F)▸a2⟩,X⟩
    case' round=>clear aE X W
   case' neg=>
    have a3:(c==4)=false:=ot K;by_cases H:c=9/\a≠4/\a≠5/\a≠6
    ·have ab:(c==9)=true:=yV H.1;have a':(a !=4)=true:=yY H.2.1;have ba:(a !=5)=true:=yY H.2.2.1;have bB:(a !=6)=true:=yY H.2.2.2;clear H;go_enter Tryz.func52,Tryz.ntmps52
     go_wp2_with fail;go_ret;exact aB.out
    have bb:(c==9)=false\/(c==9)=true/\((a !=4)=false\/(a !=4)=true/\((a !=5)=false\/(a !=5)=true/\(a !=6)=false)):=by simp;omega
    clear H K;rcases bb with ab|⟨ab,d4|⟨a',d5|⟨ba,d6⟩⟩⟩
    all_goals
     go_enter Tryz.func52,Tryz.ntmps52
     go_wp2_with fail;go_loopg [3,5,37] (O b) (λad v _ ae wr=>∃(l:Nat) (A:OA) (B:Nat) (ls:List Int),ad=O b - l/\ae=.int .i64 l/\v=J A (O ls) B/\l<=O b/\wr.ownsRow (E (U (w.alloc (Ob (ai c a (J e i j) (J d (O b) k)) 39)))) 3 1 (J A (O ls) B) (O ls) (aC ls)/\(O ls<=1+((b.take l).map (aU h w)).sum/\∀y∈ls,0<=y/\y<(D:Int))/\Below (E (U (w.alloc (Ob (ai c a (J e i j) (J d (O b) k)) 39)))) (w.alloc (Ob (ai c a (J e i j) (J d (O b) k)) 39)) wr)
     case atStart=>exact⟨0,I,0,[],Q,Q,Q,zL _,World.ownsRow_nil _ _ _ _,⟨zL _,λy F=>by cases F⟩,Below.refl _ _⟩
   all_goals
    obtain⟨l,A,B,ls,aF,rfl,rfl,bD,aG,aH,G⟩:=hrel;have bc:Hid (gk=O b - l):=aF;have L:Hid (O ls<=1+((b.take l).map (aU h w)).sum/\∀y∈ls,0<=y/\y<(D:Int)):=aH;have M:=(Z.out G).2;clear aF aH;by_cases aI:l<O b
    ·have aK:(l:Int)<(O b:Int):=oM;obtain⟨g,m,n,o,q,r,z,al1,s,rfl,bd,ah,aL⟩:=ay.out.2 l aI;have N:∀t,t<4->wr.cell? ⟨g,l*4+t,I⟩=(ai m n (J o q r) (J z al1 s))[t]? :=λt bf=>(M.cell (p:=⟨g,l*4+t,I⟩) bd).trans (aL t bf);have bg:=N 0 dC;have ac:=N 1 dC;have bE:=N 2 dC;have bF:=N 3 dC;simp only[Nat.add_zero] at bg;have bG:g<E (U wr):=oH M.size;have Y:Below (E (U w)) w (wr.alloc (Ob (ai m n (J o q r) (J z al1 s)) 39)):=M.alloc M.size _;have aj:=ay.out.1 _ (mG ah);have bh:Hid (af S (Gd D) h (wr.alloc (Ob (ai m n (J o q r) (J z al1 s)) 39)) (ai m n (J o q r) (J z al1 s)).toList):=af.frame (al.below Y) Y.size _ _ aj;obtain⟨P,ak⟩:∃P,aU h w (ai m n (J o q r) (J z al1 s)).toList=P:=⟨_,Q⟩;have aM:Hid (aU h (wr.alloc (Ob (ai m n (J o q r) (J z al1 s)) 39)) (ai m n (J o q r) (J z al1 s)).toList=P):=(aJ (al.below Y) Y.size _ _ aj h).trans ak
     have ao:Hid (((b.take (l+1)).map (aU h w)).sum=((b.take l).map (aU h w)).sum+P):=by
      show _=_;rw[List.take_add_one,ah,List.map_append,List.sum_append,<-ak];simp
     have aN:Hid (((b.take (l+1)).map (aU h w)).sum<=(b.map (aU h w)).sum):=di b _;have bi:=ag aG (w':=wr.alloc (Ob (ai m n (J o q r) (J z al1 s)) 39)) (λaO _ ap=>Below.heap_alloc _ _ _ ap);have aP:=G.alloc G.size (Ob (ai m n (J o q r) (J z al1 s)) 39);clear N aL ah aj ak;go_wp2_with fail;refine(aY.out bh.out (by rw[aM.out];have aq:=ao.out;have aQ:=aN.out;have bj:=az.out;omega)).mono ?_;rintro bH aR ⟨aT,aV,C,rfl,bk,ar,aW,aX⟩;rw[aM.out] at ar;have au:Hid (O C<=P/\∀y∈C,0<=y/\y<(D:Int)):=⟨ar,aW⟩;clear ar aW;have bl:=ag bi (w':=aR) (λaO _ ap=>aX.block aO ap);have bm:=aP.trans (aX.mono aP.size);have bn:ro aR (λ_=>True) 1 (J aT (O C) aV) (O C) (aC C):=ro.bJ bk (λ_ _=>trivial);have bo:O ls+O C<=17592186044416:=by have aq:=ao.out;have aQ:=aN.out;have bj:=az.out;have bp:=L.out.1;have bq:=au.out.1;omega
     go_wp2_with (at_builtin;refine bC 22 (v:=J A (O ls) B) (xv:=J aT (O C) aV) rQ rQ rQ rQ (jn bl bm bn bo _) ?_;rintro a6 bI ⟨br,bs,rfl,bt,bu⟩)
     go_roundg (O b - (l+1))
     case measure=>rw[bc.out];omega
     case rel=>exact⟨l+1,br,bs,ls++C,Q,by go_num,sQ,aI,bt,⟨by have aq:=ao.out;have bp:=L.out.1;have bq:=au.out.1;rw[List.length_append];omega,λy F=>(List.mem_append.1 F).elim (L.out.2 y) (au.out.2 y)⟩,bu⟩
    ·have aK:¬(l:Int)<(O b:Int):=oM;have bJ:decide ((l:Int)<(O b:Int))=false:=sU aK;go_wp2_with fail;go_ret;refine⟨A,B,ls,Q,eL aG sQ,?_,L.out.2,M⟩;have aq:=di (f:=aU h w) b l;have aQ:=L.out.1;omega
end
theorem pK {b:Nat} {a w:World} (h:Below b a w) (n:Nat):Below b a (w.drewN n):=⟨h.os,h.tape,h.output,h.size,h.block⟩
def ix (w:World) (e:Ending) (w':World):Prop:=∃r:Bool,e=.returned (.bool r)/\Below (E (U w)) w w'
theorem oy {S:Nat->Prop} {v T:Nat} {M:MK}:(h:Nat)->∀{w:World} {c r:Int} {t:Value} {s:OA} {x u:Nat},PI w v M T->af S (Gd (O M.ds)) h w (ai c r t (J s x u)).toList->Calls Tryz.prog 57 #[.pointer (aS v),.agg (ai c r t (J s x u))] w (ix w)
 |0,_,_,_,_,_,_,_,_,hn=>absurd hn (λW=>W)
 |h+1,w,c,r,t,s,x,u,hp,hn=>by
  have ag:Hid (∀{w:World} {c r:Int} {t:Value} {s:OA} {x u:Nat},PI w v M T->af S (Gd (O M.ds)) h w (ai c r t (J s x u)).toList->Calls Tryz.prog 57 #[.pointer (aS v),.agg (ai c r t (J s x u))] w (ix w)):=oy h;obtain⟨_,_,_,_,_,_,ah,_⟩:=hn.parts;have ar:=ah.2.1;obtain⟨b,rfl,aL,-,aj,ak⟩:=hn.args;have N:Hid ((∀W∈b,af S (Gd (O M.ds)) h w W)/\∀a,a<O b->∃g e f i j k l al1 m,s=some ⟨g,0,I⟩/\g<E (U w)/\b[a]? =some (ai e f (J i j k) (J l al1 m)).toList/\∀d,d<4->w.cell? ⟨g,a*4+d,I⟩=(ai e f (J i j k) (J l al1 m))[d]?):=⟨aj,ak⟩;have y:Hid (PI w v M T):=hp;obtain⟨z,-⟩:=al1 w (Ob (ai c r t (J s (O b) u)) 39);clear hn aj ak ah hp;by_cases A:c=3
  ·have au:(c==3)=true:=yV A;have av:(c==1)=false:=ot oM;have aw:(c==2)=false:=ot oM;have ax:(c==5)=false:=ot oM;have ay:(c==6)=false:=ot oM;clear A;go_enter Tryz.func57,Tryz.ntmps57
   go_wp2_with fail;go_loopg [6,37] (O b) (λX _ Y wr=>∃a:Nat,X=O b - a/\Y=vN a/\a<=O b/\Below (E (U w)) w wr)
   case atStart=>exact⟨0,Q,Q,zL _,z⟩
   case round=>
    clear z;obtain⟨a,B,rfl,az,n⟩:=hrel;have Z:Hid (gk=O b - a):=B;clear B;by_cases C:a<O b
    ·have D:(a:Int)<(O b:Int):=oM;obtain⟨g,e,f,i,j,k,l,al1,m,rfl,R,F,G⟩:=N.out.2 a C;have o:∀d,d<4->wr.cell? ⟨g,a*4+d,I⟩=(ai e f (J i j k) (J l al1 m))[d]? :=λd aa=>(n.cell (p:=⟨g,a*4+d,I⟩) R).trans (G d aa);have ab:=o 0 dC;have aA:=o 1 dC;have aB:=o 2 dC;have aC:=o 3 dC;simp only[Nat.add_zero] at ab;have aD:g<E (U wr):=oH n.size;have q:Below (E (U w)) w (wr.alloc (Ob (ai e f (J i j k) (J l al1 m)) 39)):=n.alloc n.size _;have ac:Hid (af S (Gd (O M.ds)) h (wr.alloc (Ob (ai e f (J i j k) (J l al1 m)) 39)) (ai e f (J i j k) (J l al1 m)).toList):=af.frame (al.below q) q.size _ _ (N.out.1 _ (mG F));clear o G F;go_wp2_with fail;refine(ag.out (y.out.kt (P:=λ_=>True) (KT.below q) trivial trivial trivial trivial) ac.out).mono ?_;rintro aE aF ⟨ad,rfl,ae⟩;have H:=q.trans (ae.mono q.size)
     cases ad
     ·go_wp2_with fail;go_ret;exact⟨_,Q,H⟩
     ·go_wp2_with fail;go_roundg (O b - (a+1))
      case measure=>rw[Z.out];omega
      case rel=>exact⟨a+1,Q,by go_num,C,H⟩
    ·have D:¬(a:Int)<(O b:Int):=oM;have aG:decide ((a:Int)<(O b:Int))=false:=sU D;go_wp2_with fail;go_ret;exact⟨_,Q,n⟩
  ·have au:(c==3)=false:=ot A;by_cases K:c=4
   ·have ao:=ar K;have aH:(c==4)=true:=yV K;have av:(c==1)=false:=ot oM;have aw:(c==2)=false:=ot oM;have ax:(c==5)=false:=ot oM;have ay:(c==6)=false:=ot oM;clear A K;obtain⟨L,rfl⟩:∃L:Nat,r=(L:Int):=⟨r.toNat,oM⟩;obtain⟨V,ap⟩:∃V,M.ds[L]? =some V:=⟨_,gG oM⟩;obtain⟨g,aM,R,aq⟩:=y.out.data ap;have aI:w.cell? ⟨g,L*10+4,I⟩=some (.bool V.copy):=aq 4 dC;have aJ:=λd=>cell_of_row w _ d _ 88 (0,0) y.out.eG;have aK:v<E (U w):=(gE y.out.eG).1;have aN:=y.out.bB;have aO:(L:Int)<(O M.ds:Int):=ao.2;clear ap aq ao;go_enter Tryz.func57,Tryz.ntmps57
    go_wp2_with fail;go_quiet (fail)
    cases aP:V.copy
    ·go_wp2_with fail;go_ret;exact⟨_,Q,pK z _⟩
    ·go_wp2_with fail;go_loopg [6,37] (O b) (λX _ Y wr=>∃a:Nat,X=O b - a/\Y=vN a/\a<=O b/\Below (E (U w)) w wr)
     case atStart=>exact⟨0,Q,Q,zL _,pK z _⟩
     case round=>
      clear z aJ aK aI;obtain⟨a,B,rfl,az,n⟩:=hrel;have Z:Hid (gk=O b - a):=B;clear B;by_cases C:a<O b
      ·have D:(a:Int)<(O b:Int):=oM;obtain⟨g,e,f,i,j,k,l,al1,m,rfl,R,F,G⟩:=N.out.2 a C;have o:∀d,d<4->wr.cell? ⟨g,a*4+d,I⟩=(ai e f (J i j k) (J l al1 m))[d]? :=λd aa=>(n.cell (p:=⟨g,a*4+d,I⟩) R).trans (G d aa);have ab:=o 0 dC;have aA:=o 1 dC;have aB:=o 2 dC;have aC:=o 3 dC;simp only[Nat.add_zero] at ab;have aD:g<E (U wr):=oH n.size;have q:Below (E (U w)) w (wr.alloc (Ob (ai e f (J i j k) (J l al1 m)) 39)):=n.alloc n.size _;have ac:Hid (af S (Gd (O M.ds)) h (wr.alloc (Ob (ai e f (J i j k) (J l al1 m)) 39)) (ai e f (J i j k) (J l al1 m)).toList):=af.frame (al.below q) q.size _ _ (N.out.1 _ (mG F));clear o G F;go_wp2_with fail;refine(ag.out (y.out.kt (P:=λ_=>True) (KT.below q) trivial trivial trivial trivial) ac.out).mono ?_;rintro aE aF ⟨ad,rfl,ae⟩;have H:=q.trans (ae.mono q.size)
       cases ad
       ·go_wp2_with fail;go_ret;exact⟨_,Q,H⟩
       ·go_wp2_with fail;go_roundg (O b - (a+1))
        case measure=>rw[Z.out];omega
        case rel=>exact⟨a+1,Q,by go_num,C,H⟩
      ·have D:¬(a:Int)<(O b:Int):=oM;have aG:decide ((a:Int)<(O b:Int))=false:=sU D;go_wp2_with fail;go_ret;exact⟨_,Q,n⟩
   ·have aH:(c==4)=false:=ot K;clear A K;go_enter Tryz.func57,Tryz.ntmps57
    go_wp2_with fail
    all_goals
     go_ret;exact⟨_,Q,z⟩
end Go.Proofs.YtcnnibahjmekdaaGreat
