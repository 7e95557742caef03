import Derived.Test.YtdghkacbpebcoaaGreatS39
namespace Go.Proofs.YtdghkacbpebcoaaGreat
open Go.RowKit
open Value renaming slice→J
open List renaming length→O
open Option renaming none→I
open World renaming heap→U
open _root_.Array renaming size→E
open Obj renaming cells→Ob
set_option linter.all false
set_option maxRecDepth 100000
set_option maxHeartbeats 0
section
variable{name:ByteArray} {K:CK} {fa fk how k m n next one pos:Int} {M:MK} {B0 cb kc mb:Nat} {ko:OA} {w:World}
structure GK (B0:Nat) (w:World) (ko:OA) (ks:VV):Prop where
 len:O ks<=6100
 er:∀idx,idx<O ks->∃g k1 p1 n1 m1 s1 o1 c1,∃us:VV,ko=some ⟨g,0,I⟩/\g<B0/\(k1=10\/k1=11)/\O us<=20000/\(∀j,j<11->w.cell? ⟨g,idx*11+j,I⟩=(ae k1 p1 n1 m1 s1 (J o1 (O us) c1)).toList[j]?)/\∀j,j<O us->∃gu k2 p2 n2 m2 s2 o2 l2 c2,o1=some ⟨gu,0,I⟩/\gu<B0/\(k2=19\/(k2=18/\NT s2))/\∀i,i<11->w.cell? ⟨gu,j*11+i,I⟩=(ae k2 p2 n2 m2 s2 (J o2 l2 c2)).toList[i]?
theorem dt {l:Nat} {x:Int} (h:fJ k n l=x) (a:x≠108/\x≠ -108):k=x:=by
 unfold fJ at h;split at h
 ·exact absurd h.symm a.1
 ·split at h
  ·exact absurd h.symm a.2
  ·exact h
theorem vr {h:Nat} {kl:Nat} (aa:isNode (λb=>b<B0) True (h+3) w (ae 9 pos n m name (J ko kl kc)).toList):∃a:VV,kl=O a/\GK B0 w ko a:=by
 obtain⟨a,rfl,ab,ac,v,aD,aE,ad,aF,-⟩:=aa.kids;refine⟨a,Q,⟨by have:=(v.cF Q).1;simpa using this,λx y=>?_⟩⟩;obtain⟨o,p⟩:∃o,a[x]? =some o:=⟨_,gG y⟩;have z:=ac o (mG p);have A:=(v.cF Q).2 _ (List.mem_map_of_mem (mG p));obtain⟨c,B,q,C,D,F,G,H,rfl,_⟩:=isNode.cells z;obtain⟨g,af,e,ag,ah⟩:=ab.nth p;obtain⟨aG,ai⟩:=ad x y;have aj:af=0:=by rw[ai] at e;simp at e;exact e.2.symm
 subst aj
 have L:c=10\/c=11:=by
  have ak:az (ae c B q C D (J F G H)).toList=fJ c q G:=rfl;rw[ak] at A;exact A.imp (λh=>dt h dC) (λh=>dt h dC)
 obtain⟨N,rfl,P,al,R,aH,-,ao,-,-⟩:=z.kids;refine⟨g,c,B,q,C,D,F,H,N,e,ag,L,P.len.2,λf i=>by have:=ah f i;rw[Nat.zero_add] at this;exact this,λf i=>?_⟩;obtain⟨d,j⟩:∃d,N[f]? =some d:=⟨_,gG i⟩;have S:=al d (mG j)
 have T:az d=19\/az d=18:=by
  rcases L with rfl|rfl
  ·exact .inl (R.xT Q _ (List.mem_map_of_mem (mG j)))
  ·exact R.xS Q _ (List.mem_map_of_mem (mG j))
 obtain⟨r,V,s,W,X,Y,t,Z,rfl,ap⟩:=isNode.cells S;obtain⟨aq,ar,l,au,av⟩:=P.nth j;obtain⟨aI,aw⟩:=ao f i;have ax:ar=0:=by rw[aw] at l;simp at l;exact l.2.symm
 subst ax;have ay:az (ae r V s W X (J Y t Z)).toList=fJ r s t:=rfl;rw[ay] at T;refine⟨aq,r,V,s,W,X,Y,t,Z,l,au,?_,λaA aB=>by have:=av aA aB;rw[Nat.zero_add] at this;exact this⟩;rcases T with u|u
 ·exact .inl (dt u dC)
 ·obtain rfl:=dt u dC;obtain⟨aJ,-,-,-,aC,-⟩:=S.kids;exact .inr ⟨Q,(aC.path Q).1.nt ap⟩
theorem kJ {b:Func} {r s:Nat} (c:b.results=#[.tmp r,.tmp s]) {a:Array Value} {u v:Value} (d:a.getD r undef=u) (e:a.getD s undef=v) {W:World}:(results b a).run Tryz.prog W=.ok (.tuple #[u,v]) W:=by
 have f:a[r]?.getD undef=u:=sU d;have i:a[s]?.getD undef=v:=sU e;simp[results,c,f,i,go_sem]
theorem BM.ret {wr:World} {j:Array Value} {a:Int} {c:OA} {d:Nat} {b:VV} {e:OA} {f:Nat} {i:VV} (q:BM w mb cb M K how one j wr next fk fa k a c d b e f i) (hl:O b<=30000):mW w mb cb M K one (.returned (.tuple #[J c (O b) d,J e (O i) f])) wr:=
 ⟨how,next,fk,fa,k,a,c,d,b,e,O i,f,Q,q.c,q.m,q.hf,q.kx,ro.bH q.rg (λl o=>oH (q.rg.lt l o).1),q.g2,hl⟩
structure BF (w:World) (mb cb:Nat) (M:MK) (K:CK) (one:Int) (nd:Array Value) (D T:Nat) (next fk fa k a:Int) (go:OA) (gc:Nat) (gs:VV) (oo:OA) (oc:Nat) (os:VV) (gb:Nat) (er:Array Value) (ob:Nat) (to':OA) (tc:Nat) (tl:List Int) (lo:OA) (lc:Nat) (ll:List Int) (bb:Nat) (bn:Array Value) (wr:World) (db:Nat) (r:Nm):Prop where
 i:BI w mb cb M K 2 one nd wr next fk fa k a go gc gs oo oc os gb er ob to' tc tl lo lc ll
 b:wr.heap[bb]? =some (Ob bn 48 (0,0))
 d:bx wr db (dF r)
 lb:E (U w)<bb
 ld:E (U w)<db
theorem oe {T:Nat} {bn:Nat->Prop} {cf cg:Nat} (bo:Cx w cb K M T bn cf cg) (aW:bJ w cb K how next one fk fa) (bp:cz w mb M) (ch:mb≠cb) (aX:K.mb=mb) (c7:B0<=cb) (c8:B0<=mb) (cG:∀b,bn b->b≠mb) {ay:Int} {ks:VV} (bv:GK B0 w ko ks) (free:Bool):
 Calls Tryz.prog 49 #[.pointer (aS mb),.agg (ae 9 pos ay m name (J ko (O ks) kc)),.pointer (aS cb),.bool free] w (mW w mb cb M K one):=by
 have cH:=bp.lt;have cI:=aW.lt;have cJ:Hid (GK B0 w ko ks):=bv;have u:Hid (Cx w cb K M T bn cf cg/\bJ w cb K how next one fk fa/\cz w mb M/\∀b,bn b->b≠mb):=⟨bo,aW,bp,cG⟩;have c9:=bv.len;have aq:E (U (w.setCell ⟨cb,9,I⟩ (vN 2)))=E (U w):=sQ;have ci:cz (w.setCell ⟨cb,9,I⟩ (vN 2)) mb M:=(Below.heap_setCell _ ⟨cb,9,I⟩ _ _ ch).trans bp
 have cj:BM w mb cb M K 2 one (ae 9 pos ay m name (J ko (O ks) kc)) ((w.setCell ⟨cb,9,I⟩ (vN 2)).alloc (Ob (ae 9 pos ay m name (J ko (O ks) kc)) 48)) next fk fa M.fk M.fa I 0 [] I 0 []:=by
  obtain⟨av,aw⟩:=al1 (w.setCell ⟨cb,9,I⟩ (vN 2)) (Ob (ae 9 pos ay m name (J ko (O ks) kc)) 48);have A:=(aW.qM 2).below av;have B:=ci.below av;rw[aq] at av aw;exact⟨((KX.refl _ _ _).setCell (p:=⟨cb,9,I⟩) (.inr (.inl Q)) _).trans (KX.al av),A,B,cI,cH,ch,aw,World.ownsRow_nil _ _ _ _,λc' bo=>by(cases bo),World.ownsRow_nil _ _ _ _,λ_=>rfl⟩
 have bw:=aW.cell;have bz:=aW.fz;have cK:cb<E (U w)+1:=oM;have ck:∀b,b<B0->¬(b=cb\/b=mb):=λb aI=>oM;clear bo aW bp bv ci aq;go_enter Tryz.func49,Tryz.ntmps49
 go_wp2_with fail;clear bw bz cK;go_loopg [10,11,14,15,17,18,19,20,21,32] (O ks) (λbA cL bB _ _ _ _ _ _ _ bC wr=>∃(z:Nat) (next fk fa k ag:Int) (az:OA) (aA:Nat) (ai:VV) (C:OA) (F:Nat) (q:VV),bA=O ks - z/\bC=vN z/\cL=J az (O ai) aA/\bB=J C (O q) F/\z<=O ks/\O ai<=z/\O q<=z*20000/\BM w mb cb M K 2 one (ae 9 pos ay m name (J ko (O ks) kc)) wr next fk fa k ag az aA ai C F q)
 case atStart=>exact⟨0,next,fk,fa,M.fk,M.fa,I,0,[],I,0,[],Q,Q,Q,Q,zL _,lR _,lR _,cj⟩
 case round=>
  clear cj;obtain⟨z,next,fk,fa,k,ag,az,aA,ai,C,F,q,bc,rfl,rfl,rfl,da,bD,bd,c⟩:=hrel;have cl:Hid (gk=O ks - z):=bc;have l:Hid (O q<=z*20000/\O ai<=z):=⟨bd,bD⟩;have cm:Hid (O ai<=z):=bD;have bE:O ai<=30000:=oM;clear bc bd bD;have cM:=λa=>cell_of_row wr _ a _ 48 (0,0) c.nb;have cN:=c.ln;have bw:=c.c.cell;have bz:=c.c.fz;have cO:=c.c.lt;by_cases bH:z<O ks
  ·have cn:(z:Int)<(O ks:Int):=oM;obtain⟨g,aO,aP,aQ,aR,aT,aY,aU,s,rfl,cP,bI,db,bf,co⟩:=cJ.out.er z bH;have x:∀d,d<11->wr.cell? ⟨g,z*11+d,I⟩=(ae aO aP aQ aR aT (J aY (O s) aU)).toList[d]? :=λd cp=>(c.kx.cell (p:=⟨g,z*11+d,I⟩) (by show g<_;omega) (ck g cP)).trans (bf d cp);have aq:=x 0 dC;have aZ:=x 1 dC;have aB:=x 2 dC;have a0:=x 3 dC;have a1:=x 4 dC;have a2:=x 5 dC;have a3:=x 6 dC;have a4:=x 7 dC;have a5:=x 8 dC;have a6:=x 9 dC;have a7:=x 10 dC;simp only[Nat.add_zero] at aq;have cQ:g<E (U wr):=oM;have cR:Hid (∀d,d<O s->∃ar a8 P R B G S V A,aY=some ⟨ar,0,I⟩/\ar<B0/\(a8=19\/(a8=18/\NT G))/\∀i,i<11->w.cell? ⟨ar,d*11+i,I⟩=(ae a8 P R B G (J S V A)).toList[i]?):=co;obtain⟨av,aw,cq⟩:=dW wr (Ob (ae aO aP aQ aR aT (J aY (O s) aU)) 48) (Ob #[J I 0 0,J I 0 0] 76);have bK:BI w mb cb M K 2 one (ae 9 pos ay m name (J (aS g) (O ks) kc)) ((wr.alloc (Ob (ae aO aP aQ aR aT (J aY (O s) aU)) 48)).alloc (Ob #[J I 0 0,J I 0 0] 76)) next fk fa k ag az aA ai C F q (E (U wr)) (ae aO aP aQ aR aT (J aY (O s) aU)) (E (U wr)+1) I 0 [] I 0 []:=⟨c.below av,aw,cq,World.ownsRow_nil _ _ _ _,World.ownsRow_nil _ _ _ _,λb y=>by simp[Value.ownBlock] at y,λy=>oH (c.rg.lt _ y).2,c.ln,oH c.ln⟩;clear av aw cq bf co x c;go_wp2_with fail;obtain⟨j,cr⟩:∃j,j=E (U wr):=⟨_,Q⟩;rw[<-cr] at bK⊢;clear cr cM cN bw bz cO cQ aq aZ aB a0 a1 a2 a3 a4 a5 a6 a7;go_loopg [11,17,18,19,20,21,40] (O s) (λbA bB _ _ _ _ _ bC bL=>∃(d:Nat) (next fk fa k ag:Int) (C:OA) (F:Nat) (q:VV) (aj:OA) (ak:Nat) (H:List Int) (al:OA) (ao:Nat) (ad:List Int),bA=O s - d/\bC=vN d/\bB=J C (O q) F/\d<=O s/\O q<=z*20000+d/\O H<=d/\O ad<=d/\BI w mb cb M K 2 one (ae 9 pos ay m name (J (aS g) (O ks) kc)) bL next fk fa k ag az aA ai C F q j (ae aO aP aQ aR aT (J aY (O s) aU)) (j+1) aj ak H al ao ad)
   case atStart=>exact⟨0,next,fk,fa,k,ag,C,F,q,I,0,[],I,0,[],Q,Q,Q,zL _,l.out.1,lR _,lR _,bK⟩
   case round=>
    clear bK l;obtain⟨d,next,fk,fa,k,ag,C,F,q,aj,ak,H,al,ao,ad,bc,rfl,rfl,cp,bd,cs,ct,c⟩:=hrel;have aC:Hid (gk=O s - d):=bc;have l:Hid (O q<=z*20000+d/\O H<=d/\O ad<=d):=⟨bd,cs,ct⟩;have bg:O H<=30000:=oM;have cu:O ad<=30000:=oM;have cv:O q<=1000000000:=oM;clear bc bd cs ct;have W:=λa=>cell_of_row wr _ a _ 48 (0,0) c.g;have L:j<E (U wr):=(gE c.g).1;have X:=λa=>cell_of_row wr _ a _ 76 (0,0) c.o;have Y:=λa=>frozen_of_row wr _ a _ 76 c.o;have Z:j+1<E (U wr):=(gE c.o).1;by_cases ax:d<O s
    ·have cw:(d:Int)<(O s:Int):=oM;obtain⟨ar,a8,P,R,B,G,S,V,A,rfl,cS,cT,bf⟩:=cR.out d ax;have x:∀i,i<11->wr.cell? ⟨ar,d*11+i,I⟩=(ae a8 P R B G (J S V A)).toList[i]? :=λi cU=>(c.b.kx.cell (p:=⟨ar,d*11+i,I⟩) (by show ar<_;omega) (ck ar cS)).trans (bf i cU);have aq:=x 0 dC;have aZ:=x 1 dC;have aB:=x 2 dC;have a0:=x 3 dC;have a1:=x 4 dC;have a2:=x 5 dC;have a3:=x 6 dC;have a4:=x 7 dC;have a5:=x 8 dC;have a6:=x 9 dC;have a7:=x 10 dC;simp only[Nat.add_zero] at aq;have bq:ar<E (U wr):=oH c.b.kx.size;clear x bf;obtain⟨av,aw⟩:=al1 wr (Ob (ae a8 P R B G (J S V A)) 48);have aa:=c.below av;clear av;by_cases cx:k=0
     ·subst cx;have cV:E (U w)<E (U wr):=c.b.ln;rcases cT with rfl|⟨rfl,hNT⟩
      ·cases free
       ·go_wp2_with (first|(go_at_call 30;refine(bM aa.b.m).mono ?_;rintro y a9 ⟨rfl,rfl⟩)|(go_at_call 39;refine(bU aa.b.m _ _).mono ?_;rintro y e ⟨⟨br,bs,rfl,aD,ah,aE⟩,-⟩;have f:=aa.mk' ah aD aE;have bN:e.heap[E (U wr)]? =some (Ob (ae 19 P R B G (J S V A)) 48 (0,0)):=(ah.block (E (U wr)) sQ (oH c.b.gM)).trans aw;obtain⟨bO,cy⟩:∃bO,bO=E (U wr):=⟨_,Q⟩;rw[<-cy] at bN⊢;clear W L X Y Z aq aZ aB a0 a1 a2 a3 a4 a5 a6 a7 bq cy;have aJ:=λa=>cell_of_row e _ a _ 48 (0,0) bN;have aK:bO<E (U e):=(gE bN).1;have W:=λa=>cell_of_row e _ a _ 48 (0,0) f.g;have L:j<E (U e):=(gE f.g).1;have X:=λa=>cell_of_row e _ a _ 76 (0,0) f.o;have Y:=λa=>frozen_of_row e _ a _ 76 f.o;have Z:j+1<E (U e):=(gE f.o).1))
        refine(fE f.b.c (u.out.1.kB u.out.2.1 u.out.2.2.1 aX u.out.2.2.2 f.b.kx f.b.m).lv u.out.1.lf _ _).mono ?_;rintro y cW ⟨bh,bP,bQ,bR,rfl,bS,bV,-⟩;have aV:=f.conv bV bS;clear W L X Y Z aJ aK;go_wp2_with fail;refine(jt aV.b.m aV.b.c).mono ?_;rintro y ap ⟨bi,bj,rfl,bW,bX,bY⟩;have N:=aV.mk' bX bW bY;have W:=λa=>cell_of_row ap _ a _ 48 (0,0) N.g;have L:j<E (U ap):=(gE N.g).1;have X:=λa=>cell_of_row ap _ a _ 76 (0,0) N.o;have Y:=λa=>frozen_of_row ap _ a _ 76 N.o;have Z:j+1<E (U ap):=(gE N.o).1;rcases bI with rfl|rfl
        ·go_wp2_with fail;refine(fE N.b.c (u.out.1.kB u.out.2.1 u.out.2.2.1 aX u.out.2.2.2 N.b.kx N.b.m).lv u.out.1.lf _ _).mono ?_;rintro y bZ ⟨b0,b1,b2,b3,rfl,b4,b5,-⟩;have b6:=N.conv b5 b4;clear W L X Y Z;go_wp2_with (at_builtin;refine bG 77 (v:=J C (O q) F) (xv:=J (aS (E (U bZ))) 1 1) rQ rQ rQ rQ (b6.yi b0 bh cv _ Q) ?_;rintro aF o ⟨b7,b8,rfl,ab⟩)
         go_roundg (O s - (d+1))
         case measure=>rw[aC.out];omega
         case rel=>exact⟨d+1,b1,b2,b3,bi,bj,b7,b8,_,aj,ak,H,al,ao,ad,Q,by go_num,sQ,ax,by have:=l.out;simp;omega,oH l.out,oH l.out,ab⟩
        ·go_wp2_with (at_builtin;refine bG 38 (v:=J al (O ad) ao) (xv:=J (aS (E (U ap))) 1 1) rQ rQ rQ rQ (N.ub bh cu _ Q) ?_;rintro aF o ⟨b9,b',rfl,r,ab⟩;have a':=λa=>cell_of_row o _ a _ 76 (0,0) r;have ba:=λa=>frozen_of_row o _ a _ 76 r;have bb:j+1<E (U o):=(gE r).1)
         go_roundg (O s - (d+1))
         case measure=>rw[aC.out];omega
         case rel=>exact⟨d+1,bP,bQ,bR,bi,bj,C,F,q,aj,ak,H,b9,b',_,Q,by go_num,Q,ax,oH l.out,oH l.out,by have:=l.out;simp;omega,ab⟩
       ·go_wp2_with (go_at_call 30;refine(bM aa.b.m).mono ?_;rintro y a9 ⟨rfl,rfl⟩)
        have aJ:=L;have aK:=L;refine(fE aa.b.c (u.out.1.kB u.out.2.1 u.out.2.2.1 aX u.out.2.2.2 aa.b.kx aa.b.m).lv u.out.1.lf _ _).mono ?_;rintro y cW ⟨bh,bP,bQ,bR,rfl,bS,bV,-⟩;have aV:=aa.conv bV bS;clear W L X Y Z aq aZ aB a0 a1 a2 a3 a4 a5 a6 a7 bq aJ aK;go_wp2_with fail;refine(jt aV.b.m aV.b.c).mono ?_;rintro y ap ⟨bi,bj,rfl,bW,bX,bY⟩;have N:=aV.mk' bX bW bY;have W:=λa=>cell_of_row ap _ a _ 48 (0,0) N.g;have L:j<E (U ap):=(gE N.g).1;have X:=λa=>cell_of_row ap _ a _ 76 (0,0) N.o;have Y:=λa=>frozen_of_row ap _ a _ 76 N.o;have Z:j+1<E (U ap):=(gE N.o).1;rcases bI with rfl|rfl
        ·go_wp2_with fail;refine(fE N.b.c (u.out.1.kB u.out.2.1 u.out.2.2.1 aX u.out.2.2.2 N.b.kx N.b.m).lv u.out.1.lf _ _).mono ?_;rintro y bZ ⟨b0,b1,b2,b3,rfl,b4,b5,-⟩;have b6:=N.conv b5 b4;clear W L X Y Z;go_wp2_with (at_builtin;refine bG 77 (v:=J C (O q) F) (xv:=J (aS (E (U bZ))) 1 1) rQ rQ rQ rQ (b6.yi b0 bh cv _ Q) ?_;rintro aF o ⟨b7,b8,rfl,ab⟩)
         go_roundg (O s - (d+1))
         case measure=>rw[aC.out];omega
         case rel=>exact⟨d+1,b1,b2,b3,bi,bj,b7,b8,_,aj,ak,H,al,ao,ad,Q,by go_num,sQ,ax,by have:=l.out;simp;omega,oH l.out,oH l.out,ab⟩
        ·go_wp2_with (at_builtin;refine bG 38 (v:=J al (O ad) ao) (xv:=J (aS (E (U ap))) 1 1) rQ rQ rQ rQ (N.ub bh cu _ Q) ?_;rintro aF o ⟨b9,b',rfl,r,ab⟩;have a':=λa=>cell_of_row o _ a _ 76 (0,0) r;have ba:=λa=>frozen_of_row o _ a _ 76 r;have bb:j+1<E (U o):=(gE r).1)
         go_roundg (O s - (d+1))
         case measure=>rw[aC.out];omega
         case rel=>exact⟨d+1,bP,bQ,bR,bi,bj,C,F,q,aj,ak,H,b9,b',_,Q,by go_num,Q,ax,oH l.out,oH l.out,by have:=l.out;simp;omega,ab⟩
      ·have cA:=u.out.1.kB u.out.2.1 u.out.2.2.1 aX u.out.2.2.2 aa.b.kx aa.b.m;have bk:Hid (PI (wr.alloc (Ob (ae 18 P R B G (J S V A)) 48)) mb (M.bu 0 ag) T):=by show PI _ _ _ _;have:=cA.pi;rw[aX] at this;exact this
       have ca:Hid (NT G/\K.mod<O M.ms):=⟨hNT,u.out.1.mod⟩;clear cA hNT;go_upto_region 22 with(go_at_call 30;refine(bM aa.b.m).mono ?_;rintro y a9 ⟨rfl,rfl⟩)
       go_cut [19,20,21] (λcX cY cZ bL=>∃(af:Nat) (cc:ByteArray) (y:Int) (t:Nm),cX=.pointer (aS af)/\cY=.string cc/\cZ=vN y/\BF w mb cb M K one (ae 9 pos ay m name (J (aS g) (O ks) kc)) (O M.ds) T next fk fa 0 ag az aA ai C F q j (ae aO aP aQ aR aT (J (aS ar) (O s) aU)) (j+1) aj ak H al ao ad (E (U wr)) (ae 18 P R B G (J S V A)) bL af t)
       case first=>
        clear W L X Y Z aq aZ aB a0 a1 a2 a3 a4 a5 a6 a7 bq;have bl:Hid (∀{ac:World},Below (E (U (wr.alloc (Ob (ae 18 P R B G (J S V A)) 48)))) (wr.alloc (Ob (ae 18 P R B G (J S V A)) 48)) ac->Below (E (U (wr.alloc (Ob (ae 18 P R B G (J S V A)) 48)))) (wr.alloc (Ob (ae 18 P R B G (J S V A)) 48)) ac/\(Ce ac mb (jM (M.bu 0 ag)))/\(Ce ac cb (dy K 2 next one fk fa))/\(Ce ac (E (U wr)) (ae 18 P R B G (J S V A)))):=λ{ac} aI=>⟨aI,(aa.b.m.below aI).cell,(aa.b.c.below aI).cell,λa=>cell_of_row ac _ a _ 48 (0,0) ((aI.block _ sQ).trans aw)⟩;have cB:Hid (∀{ac:World} {af:Nat} {t:Nm},Below (E (U (wr.alloc (Ob (ae 18 P R B G (J S V A)) 48)))) (wr.alloc (Ob (ae 18 P R B G (J S V A)) 48)) ac->bx ac af (dF t)->E (U w)<af->BF w mb cb M K one (ae 9 pos ay m name (J (aS g) (O ks) kc)) (O M.ds) T next fk fa 0 ag az aA ai C F q j (ae aO aP aQ aR aT (J (aS ar) (O s) aU)) (j+1) aj ak H al ao ad (E (U wr)) (ae 18 P R B G (J S V A)) ac af t):=λ{ac af t} aI c0 c1=>⟨aa.below aI,(aI.block _ sQ).trans aw,c0,cV,c1⟩
        go_region_held3 (λac=>Below (E (U (wr.alloc (Ob (ae 18 P R B G (J S V A)) 48)))) (wr.alloc (Ob (ae 18 P R B G (J S V A)) 48)) ac/\(Ce ac mb (jM (M.bu 0 ag)))/\(Ce ac cb (dy K 2 next one fk fa))/\(Ce ac (E (U wr)) (ae 18 P R B G (J S V A))))
         (first|assumption|exact bl.out ((Below.refl _ _).drew)|exact bl.out ((al1 _ _).1.drew)|exact bl.out aL|exact bl.out (aL.alloc aL.size _)|exact bl.out (Below.cM aL sQ _ _ _ _))
         (first
          |(go_at_call 69;have cd:=(‹Below (E (U (wr.alloc (Ob (ae 18 P R B G (J S V A)) 48)))) (wr.alloc (Ob (ae 18 P R B G (J S V A)) 48)) _/\_›).1;refine(pA (D:=O M.ds) (T:=T) bk.out.bj.1 bk.out.bj.2.2 (bk.out.cE.below cd) bk.out.q _ _ _ _ _ _ (i:=K.mod) ca.out.2 _ ca.out.1).mono ?_;rintro y a9 ⟨cC,cD,aB,rfl,dc,cE⟩;have aL:=cd.trans (cE.mono cd.size);have c2:=aL.size;first|(have bt:bx a9 (E (U wr)+1) (dF gJ):=(cE.block (E (U wr)+1) sQ).trans (dW wr _ _).2.2;have dd:=bt.cell;have de:=bt.fz;have df:=bt.lt)|skip))
        all_goals
         go_wp2_with fail;go_meet
         first
          |exact⟨E (U wr)+1,cD,aB,cC,Q,Q,Q,cB.out (Below.cM aL sQ _ _ _ _) (bx.bQ bt _ _ _ _) oM⟩
          |exact⟨E (U a9),cD,aB,cC,Q,Q,Q,cB.out (aL.alloc aL.size _) (al1 _ _).2 (by simp at c2;omega)⟩
       case rest=>
        clear W L X Y Z bk ca aq aZ aB a0 a1 a2 a3 a4 a5 a6 a7 bq aa aw;obtain⟨af,cc,y,t,rfl,rfl,rfl,c⟩:=hcut;have aJ:=λa=>cell_of_row wc _ a _ 48 (0,0) c.b;have aK:E (U wr)<E (U wc):=(gE c.b).1;have aM:=c.d.cell;have aN:=c.d.lt;have W:=λa=>cell_of_row wc _ a _ 48 (0,0) c.i.g;have L:j<E (U wc):=(gE c.i.g).1;have X:=λa=>cell_of_row wc _ a _ 76 (0,0) c.i.o;have Y:=λa=>frozen_of_row wc _ a _ 76 c.i.o;have Z:j+1<E (U wc):=(gE c.i.o).1;by_cases cF:y=0
        ·subst cF
         cases dg:(cc.toList==[])
         ·go_wp2_with (first|(go_at_call 39;refine(bU c.i.b.m _ _).mono ?_;rintro y e ⟨⟨br,bs,rfl,aD,ah,aE⟩,-⟩;have f:=c.i.mk' ah aD aE;have au:bx e af (dF t):=(ah.block af c.d.lt (oI c.i.b.gM c.ld)).trans c.d;clear W L X Y Z aJ aK aM aN;have aM:=au.cell;have aN:=au.lt;have W:=λa=>cell_of_row e _ a _ 48 (0,0) f.g;have L:j<E (U e):=(gE f.g).1;have X:=λa=>cell_of_row e _ a _ 76 (0,0) f.o;have Y:=λa=>frozen_of_row e _ a _ 76 f.o;have Z:j+1<E (U e):=(gE f.o).1)|(at_builtin;refine bG 38 (v:=J aj (O H) ak) (xv:=J (aS (E (U e))) 1 1) rQ rQ rQ rQ (f.og t.n bg _ Q) ?_;rintro aF o ⟨aG,aH,rfl,r,ab⟩;have a':=λa=>cell_of_row o _ a _ 76 (0,0) r;have ba:=λa=>frozen_of_row o _ a _ 76 r;have bb:j+1<E (U o):=(gE r).1))
          go_roundg (O s - (d+1))
          case measure=>rw[aC.out];omega
          case rel=>exact⟨d+1,_,_,_,_,_,C,F,q,aG,aH,H++[t.n],al,ao,ad,Q,by go_num,Q,ax,oH l.out,by have:=l.out;simp;omega,oH l.out,ab⟩
         ·by_cases bm:t.sort=2
          ·have c3:(t.sort !=2)=false:=bF bm;by_cases bu:t.n=3
           ·have c4:(t.n==3)=true:=eT bu;clear bm bu;go_wp2_with (first|(go_at_call 39;refine(bU c.i.b.m _ _).mono ?_;rintro y e ⟨⟨br,bs,rfl,aD,ah,aE⟩,-⟩;have f:=c.i.mk' ah aD aE;have au:bx e af (dF t):=(ah.block af c.d.lt (oI c.i.b.gM c.ld)).trans c.d;clear W L X Y Z aJ aK aM aN;have aM:=au.cell;have aN:=au.lt;have W:=λa=>cell_of_row e _ a _ 48 (0,0) f.g;have L:j<E (U e):=(gE f.g).1;have X:=λa=>cell_of_row e _ a _ 76 (0,0) f.o;have Y:=λa=>frozen_of_row e _ a _ 76 f.o;have Z:j+1<E (U e):=(gE f.o).1)|(at_builtin;refine bG 38 (v:=J aj (O H) ak) (xv:=J (aS (E (U e))) 1 1) rQ rQ rQ rQ (f.og t.n bg _ Q) ?_;rintro aF o ⟨aG,aH,rfl,r,ab⟩;have a':=λa=>cell_of_row o _ a _ 76 (0,0) r;have ba:=λa=>frozen_of_row o _ a _ 76 r;have bb:j+1<E (U o):=(gE r).1))
            go_roundg (O s - (d+1))
            case measure=>rw[aC.out];omega
            case rel=>exact⟨d+1,_,_,_,_,_,C,F,q,aG,aH,H++[t.n],al,ao,ad,Q,by go_num,Q,ax,oH l.out,by have:=l.out;simp;omega,oH l.out,ab⟩
           ·have c4:(t.n==3)=false:=eF bu;clear bm bu;go_wp2_with (at_builtin;refine bG 38 (v:=J aj (O H) ak) (xv:=J (aS (E (U wc))) 1 1) rQ rQ rQ rQ (c.i.og t.n bg _ Q) ?_;rintro aF o ⟨aG,aH,rfl,r,ab⟩;have a':=λa=>cell_of_row o _ a _ 76 (0,0) r;have ba:=λa=>frozen_of_row o _ a _ 76 r;have bb:j+1<E (U o):=(gE r).1)
            go_roundg (O s - (d+1))
            case measure=>rw[aC.out];omega
            case rel=>exact⟨d+1,_,_,_,_,_,C,F,q,aG,aH,H++[t.n],al,ao,ad,Q,by go_num,Q,ax,oH l.out,by have:=l.out;simp;omega,oH l.out,ab⟩
          ·have c3:(t.sort !=2)=true:=bT bm;clear bm;go_wp2_with (first|(go_at_call 39;refine(bU c.i.b.m _ _).mono ?_;rintro y e ⟨⟨br,bs,rfl,aD,ah,aE⟩,-⟩;have f:=c.i.mk' ah aD aE;have au:bx e af (dF t):=(ah.block af c.d.lt (oI c.i.b.gM c.ld)).trans c.d;clear W L X Y Z aJ aK aM aN;have aM:=au.cell;have aN:=au.lt;have W:=λa=>cell_of_row e _ a _ 48 (0,0) f.g;have L:j<E (U e):=(gE f.g).1;have X:=λa=>cell_of_row e _ a _ 76 (0,0) f.o;have Y:=λa=>frozen_of_row e _ a _ 76 f.o;have Z:j+1<E (U e):=(gE f.o).1)|(at_builtin;refine bG 38 (v:=J aj (O H) ak) (xv:=J (aS (E (U e))) 1 1) rQ rQ rQ rQ (f.og t.n bg _ Q) ?_;rintro aF o ⟨aG,aH,rfl,r,ab⟩;have a':=λa=>cell_of_row o _ a _ 76 (0,0) r;have ba:=λa=>frozen_of_row o _ a _ 76 r;have bb:j+1<E (U o):=(gE r).1))
           go_roundg (O s - (d+1))
           case measure=>rw[aC.out];omega
           case rel=>exact⟨d+1,_,_,_,_,_,C,F,q,aG,aH,H++[t.n],al,ao,ad,Q,by go_num,Q,ax,oH l.out,by have:=l.out;simp;omega,oH l.out,ab⟩
        ·have dh:(y !=0)=true:=bT cF;go_wp2_with (first|(go_at_call 39;refine(bU c.i.b.m _ _).mono ?_;rintro y e ⟨⟨br,bs,rfl,aD,ah,aE⟩,-⟩;have f:=c.i.mk' ah aD aE;have au:bx e af (dF t):=(ah.block af c.d.lt (oI c.i.b.gM c.ld)).trans c.d;clear W L X Y Z aJ aK aM aN;have aM:=au.cell;have aN:=au.lt;have W:=λa=>cell_of_row e _ a _ 48 (0,0) f.g;have L:j<E (U e):=(gE f.g).1;have X:=λa=>cell_of_row e _ a _ 76 (0,0) f.o;have Y:=λa=>frozen_of_row e _ a _ 76 f.o;have Z:j+1<E (U e):=(gE f.o).1)|(at_builtin;refine bG 38 (v:=J aj (O H) ak) (xv:=J (aS (E (U e))) 1 1) rQ rQ rQ rQ (f.og t.n bg _ Q) ?_;rintro aF o ⟨aG,aH,rfl,r,ab⟩;have a':=λa=>cell_of_row o _ a _ 76 (0,0) r;have ba:=λa=>frozen_of_row o _ a _ 76 r;have bb:j+1<E (U o):=(gE r).1))
         go_roundg (O s - (d+1))
         case measure=>rw[aC.out];omega
         case rel=>exact⟨d+1,_,_,_,_,_,C,F,q,aG,aH,H++[t.n],al,ao,ad,Q,by go_num,Q,ax,oH l.out,by have:=l.out;simp;omega,oH l.out,ab⟩
     ·have di:(k==0)=false:=sU cx;go_wp2_with (go_at_call 30;refine(bM aa.b.m).mono ?_;rintro y a9 ⟨rfl,rfl⟩)
      go_light;exact bodyPost_ret (kJ Tryz.results49 Q Q) Q (aa.b.ret bE)
    ·have cw:¬(d:Int)<(O s:Int):=oM;have dj:decide ((d:Int)<(O s:Int))=false:=sU cw;have dk:d=O s:=oM;rcases bI with rfl|rfl
     ·go_wp2_with fail;go_roundg (O ks - (z+1))
      case measure=>rw[cl.out];omega
      case rel=>exact⟨z+1,next,fk,fa,k,ag,az,aA,ai,C,F,q,Q,by go_num,Q,Q,bH,oH cm.out,oH l.out.1,c.b⟩
     ·go_wp2_with (at_builtin;refine bG 37 (v:=J az (O ai) aA) (xv:=J (aS (E (U wr))) 1 1) rQ rQ rQ rQ (c.zk bE _ Q) ?_;rintro aF dl ⟨c5,c6,rfl,ce⟩)
      go_roundg (O ks - (z+1))
      case measure=>rw[cl.out];omega
      case rel=>exact⟨z+1,next,fk,fa,k,ag,c5,c6,_,C,F,q,Q,by go_num,sQ,Q,bH,by have:=cm.out;simp;omega,oH l.out.1,ce⟩
  ·have cn:¬(z:Int)<(O ks:Int):=oM;have dm:decide ((z:Int)<(O ks:Int))=false:=sU cn;have ce:=c.kE how;go_wp2_with fail;go_light;exact bodyPost_ret (kJ Tryz.results49 Q Q) Q (ce.ret bE)
end
end Go.Proofs.YtdghkacbpebcoaaGreat
