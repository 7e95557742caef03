import Derived.Test.YtcnnibahjmekdaaGreatS34
namespace Go.Proofs.YtcnnibahjmekdaaGreat
open Go.RowKit
open Value renaming slice→J
open List renaming length→O
open Option renaming none→I
open World renaming heap→U
open _root_.Array renaming size→E
open Obj renaming cells→Ob
set_option linter.all false
set_option maxRecDepth 100000
set_option maxHeartbeats 0
theorem sh {h:Nat} (aF:bZ h) {w:World} {f:Nat} {K:CK} {M:MK} {T:Nat} {S:Nat->Prop} {ar N B0:Nat} {how next one fa:Int} (aa:Cx w f K M T S ar N) (ab:bP w f K how next one 0 fa) (a6:B0<=f) {pos n m:Int} {name:ByteArray} {ko:OA} {kl kc:Nat} (aH:isNode (λb=>b<B0) True (h+1) w (ae 16 pos n m name (J ko kl kc)).toList):
 Calls Tryz.prog 50 #[.pointer (some ⟨f,0,I⟩),.agg (ae 16 pos n m name (J ko kl kc))] w (bS w f K how one S (O M.ds) (aG (h+1) w (ae 16 pos n m name (J ko kl kc)).toList*N)):=by
 have a7:Hid (bZ h):=@aF;clear aF;obtain⟨P,rfl,aI,aJ,au,aK,bJ,aL,-,-⟩:=aH.kids;obtain⟨ac,av⟩:∃ac,ac=aG (h+1) w (ae 16 pos n m name (J ko (O P) kc)).toList*N:=⟨_,Q⟩;rw[<-av];have aM:ac=(1+(P.map (aG h w)).sum)*N:=by rw[av,aK]
 have ad:=ab.lt;have bK:=aa.z1;have H:Hid (Cx w f K M T (λb=>S b/\b<E (U w)) ar N/\bP w f K how next one 0 fa):=⟨aa.low,ab⟩;obtain⟨aw,aO,aP⟩:=eI w (Ob (ae 16 pos n m name (J ko (O P) kc)) 46) (Ob dF 39);have D:PM w f K how one (ae 16 pos n m name (J ko (O P) kc)) ((w.alloc (Ob (ae 16 pos n m name (J ko (O P) kc)) 46)).alloc (Ob dF 39)) next 0 fa:=⟨Kp.aq aw,ab.below aw,ad,aO,aP⟩;have aR:Hid (∀{t:World},Kp (E (U w)) f w t->al (λb=>b<B0) w t):=λ{t} a8 b X a9=>a8.block b a9 oM;have bL:Hid (∀b,(S b/\b<E (U w))->b≠f/\b<E (U w)):=λb X=>⟨aa.s0 b X.1,X.2⟩;obtain⟨aT,a',ax,L⟩:=au.ref Q
 obtain⟨V,rfl⟩:∃V,P=[V]:=by
  match P,ax with
  |[V],_=>exact⟨V,Q⟩
 obtain rfl:aA V=a':=sU ax;have ay:=aJ V sQ;obtain⟨a,j,d,k,l,o,e,q,rfl,_⟩:=isNode.cells ay;obtain⟨g,rfl⟩:=aL 0 sQ;obtain⟨ba,bb,ag,bM,az⟩:=aI.nth (i:=0) (x:=(ae a j d k l (J o e q)).toList) Q;obtain⟨rfl,rfl⟩:g=ba/\bb=0:=by simp at ag;exact⟨ag.1,ag.2.symm⟩
 simp only[Nat.zero_mul,Nat.zero_add] at az
 have aU:cH a:=by
  have v:aA (ae a j d k l (J o e q)).toList=fL a d e:=rfl;rw[v] at L;unfold fL at L;split at L
  ·rename_i bN
   obtain⟨u,b⟩:=L;omega
  ·split at L
   ·obtain⟨u,b⟩:=L;omega
   ·exact L
 obtain⟨W,aV⟩:∃W:Int,(n=0/\W=6)\/(n=1/\W=7):=by
  rcases aT with v|v
  ·exact⟨6,.inl ⟨v,Q⟩⟩
  ·exact⟨7,.inr ⟨v,Q⟩⟩
 have ah:Hid (isNode (λb=>b<B0) True h w (ae a j d k l (J o e q)).toList/\cH a/\∀F,F<11->w.cell? ⟨g,F,I⟩=(ae a j d k l (J o e q)).toList[F]?):=⟨ay,aU,az⟩
 have bc:Hid (1+aG h w (ae a j d k l (J o e q)).toList*N<=ac):=by
  show _<=_;rw[aM,Nat.add_mul,Nat.one_mul];simp only[List.map_cons,List.map_nil,List.sum_cons,List.sum_nil,Nat.add_zero];omega
 clear av aM aI aJ au aK aL aH aT ay aU az L ax ag;have ai:Hid ((n=0/\W=6)\/(n=1/\W=7)):=aV;clear aV;clear aw aO aP aa ab;go_enter Tryz.func50,Tryz.ntmps50
 have aj:=λs=>cell_of_row _ _ s _ 46 (0,0) D.nb;have ak:=(gE D.nb).1;have ao:=D.zb.cell;have ap:=D.zb.fz;have aq:=D.zb.lt;go_upto_region 11 with(go_at_call 70;refine(iR D.c).mono ?_;rintro v aB ⟨rfl,rfl⟩)
 go_cut [5] (λbd bf=>∃(aC aW:Nat) (aX next bg fa:Int),bd=.pointer (aS aC)/\TM w f K how one (ae 16 pos n m name (J (aS g) [(ae a j d k l (J o e q)).toList].length kc)) bf next bg fa aC W 0 aW aX)
 case first=>
  have B:Hid (∀{t:World} {u b y:Int},PM w f K how one (ae 16 pos n m name (J (aS g) [(ae a j d k l (J o e q)).toList].length kc)) t u b y->(∃u b y,PM w f K how one (ae 16 pos n m name (J (aS g) [(ae a j d k l (J o e q)).toList].length kc)) t u b y)/\∀s,t.cell? ⟨E (U w),s,I⟩=(ae 16 pos n m name (J (aS g) [(ae a j d k l (J o e q)).toList].length kc))[s]?):=λ{t u b y} c=>⟨⟨u,b,y,c⟩,λs=>cell_of_row t _ s _ 46 (0,0) c.nb⟩;rcases ai.out with⟨rfl,rfl⟩|⟨rfl,rfl⟩
  ·clear ai
   go_region_held3 (λt=>(∃u b y,PM w f K how one (ae 16 pos 0 m name (J (aS g) [(ae a j d k l (J o e q)).toList].length kc)) t u b y)/\∀s,t.cell? ⟨E (U w),s,I⟩=(ae 16 pos 0 m name (J (aS g) [(ae a j d k l (J o e q)).toList].length kc))[s]?)
    (first|assumption|exact B.out (D.below ((Below.refl _ _).drew))|exact B.out (D.below ((al1 _ _).1.drew))|exact B.out r|exact B.out (r.below (al1 _ _).1)|exact B.out (r.below (eI _ _ _).1)|exact B.out ((r.uX Y _ _ _ _).below (al1 _ _).1))
    (first
     |(go_at_call 72;obtain⟨bh,bi,bj,R⟩:=(‹(∃u b y,PM w f K how one (ae 16 pos 0 m name (J (aS g) [(ae a j d k l (J o e q)).toList].length kc)) _ u b y)/\_›).1;refine(fG R.c (H.out.1.step H.out.2 R.k).lv H.out.1.lf _ _).mono ?_;rintro v aD ⟨z,bk,bl,bm,rfl,aE,Z,-⟩;have r:=R.step Z aE;have bn:=r.zb.lt;first|(have G:aN aD (E (U w)+1+1) dF:=(Z.block (E (U w)+1+1) sQ oM).trans (np w _ _ _).2.2.2;have Y:E (U w)+1<E (U w)+1+1:=oM;have bo:=G.cell;have bp:=G.fz;have bq:=G.lt)|skip))
   all_goals
    go_wp2_with fail;go_meet
    first
     |exact⟨_,_,z,_,_,_,Q,TM.o1 r 6 0 z⟩
     |exact⟨_,_,z,_,_,_,Q,TM.o2 r 6 0 z⟩
     |exact⟨_,_,z,_,_,_,Q,TM.o3 r G Y 6 0 z⟩
  ·clear ai
   go_region_held3 (λt=>(∃u b y,PM w f K how one (ae 16 pos 1 m name (J (aS g) [(ae a j d k l (J o e q)).toList].length kc)) t u b y)/\∀s,t.cell? ⟨E (U w),s,I⟩=(ae 16 pos 1 m name (J (aS g) [(ae a j d k l (J o e q)).toList].length kc))[s]?)
    (first|assumption|exact B.out (D.below ((Below.refl _ _).drew))|exact B.out (D.below ((al1 _ _).1.drew))|exact B.out r|exact B.out (r.below (al1 _ _).1)|exact B.out (r.below (eI _ _ _).1)|exact B.out ((r.uX Y _ _ _ _).below (al1 _ _).1))
    (first
     |(go_at_call 72;obtain⟨bh,bi,bj,R⟩:=(‹(∃u b y,PM w f K how one (ae 16 pos 1 m name (J (aS g) [(ae a j d k l (J o e q)).toList].length kc)) _ u b y)/\_›).1;refine(fG R.c (H.out.1.step H.out.2 R.k).lv H.out.1.lf _ _).mono ?_;rintro v aD ⟨z,bk,bl,bm,rfl,aE,Z,-⟩;have r:=R.step Z aE;have bn:=r.zb.lt;first|(have G:aN aD (E (U w)+1+1) dF:=(Z.block (E (U w)+1+1) sQ oM).trans (np w _ _ _).2.2.2;have Y:E (U w)+1<E (U w)+1+1:=oM;have bo:=G.cell;have bp:=G.fz;have bq:=G.lt)|skip))
   all_goals
    go_wp2_with fail;go_meet
    first
     |exact⟨_,_,z,_,_,_,Q,TM.o1 r 7 0 z⟩
     |exact⟨_,_,z,_,_,_,Q,TM.o2 r 7 0 z⟩
     |exact⟨_,_,z,_,_,_,Q,TM.o3 r G Y 7 0 z⟩
 case rest=>
  clear aj ak ao ap aq;obtain⟨aC,aW,aX,bO,bQ,bR,rfl,c⟩:=hcut;have br:Hid (Cx wc f K M T (λb=>S b/\b<E (U w)) ar N):=H.out.1.step H.out.2 c.pm.k;have bs:Hid (isNode (λb=>b<B0) True h wc (ae a j d k l (J o e q)).toList):=isNode.frame (aR.out c.pm.k) _ _ ah.out.1;have bt:Hid (aG h wc (ae a j d k l (J o e q)).toList=aG h w (ae a j d k l (J o e q)).toList):=aQ (aR.out c.pm.k) _ _ ah.out.1 _;have C:∀F,F<11->wc.cell? ⟨g,F,I⟩=(ae a j d k l (J o e q)).toList[F]? :=λF bu=>(c.pm.k.cell (p:=⟨g,F,I⟩) (by show g<_;omega) (by show g≠f;omega)).trans (ah.out.2.2 F bu);have bv:=C 0 dC;have bw:=C 1 dC;have bx:=C 2 dC;have bz:=C 3 dC;have bA:=C 4 dC;have bB:=C 5 dC;have bC:=C 6 dC;have bD:=C 7 dC;have bE:=C 8 dC;have bF:=C 9 dC;have bG:=C 10 dC;have au:g<E (U wc):=oH c.pm.k.size;clear C;have aY:=c.t.cell;have aZ:=c.t.fz;have a0:=c.t.lt;have aj:=λs=>cell_of_row wc _ s _ 46 (0,0) c.pm.nb;have ak:E (U w)<E (U wc):=(gE c.pm.nb).1;have ao:=c.pm.zb.cell;have ap:=c.pm.zb.fz;have aq:=c.pm.zb.lt;have a1:=c.pm.c.cell;have a2:=c.pm.c.fz;have ad:=c.pm.c.lt;go_wp2_with fail;refine(a7.out br.out c.pm.c a6 bs.out ah.out.2.1).mono ?_;rintro v aB ⟨bT,bU,bV,bW,bX,bY,b0,b1,b2,b3,b4,rfl,a3,a4,⟨b5,bH⟩,a5⟩;rw[bt.out] at a5;have A:=c.step a4 a3;have bI:=af.weaken (S':=λb=>(S b/\b<E (U w))\/E (U wc)<=b) (λb X _=>X) _ _ bH;clear bv bw bx bz bA bB bC bD bE bF bG aY aZ a0 aj ak ao ap aq a1 a2 ad;have aY:=A.t.cell;have aZ:=A.t.fz;have a0:=A.t.lt;have b6:=A.ne;have b7:=A.xJ;have aj:=λs=>cell_of_row aB _ s _ 46 (0,0) A.pm.nb;have ak:E (U w)<E (U aB):=(gE A.pm.nb).1;have ao:=A.pm.zb.cell;have ap:=A.pm.zb.fz;have aq:=A.pm.zb.lt;have a1:=A.pm.c.cell;have a2:=A.pm.c.fz;have ad:=A.pm.c.lt;go_wp2_with fail;go_light;exact yC c (by rcases ai.out with v|v;exact .inl v.2;exact .inr v.2) a4 a3 bI a5 bc.out _ Q Q
end Go.Proofs.YtcnnibahjmekdaaGreat
