import Derived.Test.YtdghkacbpebcoaaGreatS32
namespace Go.Proofs.YtdghkacbpebcoaaGreat
open Go.RowKit
open Value renaming slice→J
open List renaming length→O
open Option renaming none→I
open World renaming heap→U
open _root_.Array renaming size→E
open Obj renaming cells→Ob
set_option linter.all false
set_option maxRecDepth 100000
set_option maxHeartbeats 0
theorem rU {h:Nat} (aF:bV h) {w:World} {f:Nat} {K:CK} {M:MK} {T:Nat} {S:Nat->Prop} {ar N B0:Nat} {how next one fa:Int} (aa:Cx w f K M T S ar N) (ab:bJ w f K how next one 0 fa) (a5:B0<=f) {pos n m:Int} {name:ByteArray} {ko:OA} {kl kc:Nat} (aH:isNode (λb=>b<B0) True (h+1) w (ae 16 pos n m name (J ko kl kc)).toList):
 Calls Tryz.prog 44 #[.pointer (some ⟨f,0,I⟩),.agg (ae 16 pos n m name (J ko kl kc))] w (bE w f K how one S (O M.ds) (aG (h+1) w (ae 16 pos n m name (J ko kl kc)).toList*N)):=by
 have a6:Hid (bV h):=@aF;clear aF;obtain⟨P,rfl,aI,aJ,au,aK,bL,aL,-,-⟩:=aH.kids;obtain⟨ac,av⟩:∃ac,ac=aG (h+1) w (ae 16 pos n m name (J ko (O P) kc)).toList*N:=⟨_,Q⟩;rw[<-av];have aM:ac=(1+(P.map (aG h w)).sum)*N:=by rw[av,aK]
 have ad:=ab.lt;have bM:=aa.z1;have H:Hid (Cx w f K M T (λb=>S b/\b<E (U w)) ar N/\bJ w f K how next one 0 fa):=⟨aa.low,ab⟩;obtain⟨aw,aN,aO⟩:=dW w (Ob (ae 16 pos n m name (J ko (O P) kc)) 48) (Ob eJ 41);have D:PM w f K how one (ae 16 pos n m name (J ko (O P) kc)) ((w.alloc (Ob (ae 16 pos n m name (J ko (O P) kc)) 48)).alloc (Ob eJ 41)) next 0 fa:=⟨Kp.al aw,ab.below aw,ad,aN,aO⟩;have aP:Hid (∀{t:World},Kp (E (U w)) f w t->aq (λb=>b<B0) w t):=λ{t} a7 b X a8=>a7.block b a8 oM;have bN:Hid (∀b,(S b/\b<E (U w))->b≠f/\b<E (U w)):=λb X=>⟨aa.s0 b X.1,X.2⟩;obtain⟨aQ,a9,ax,L⟩:=au.ref Q
 obtain⟨V,rfl⟩:∃V,P=[V]:=by
  match P,ax with
  |[V],_=>exact⟨V,Q⟩
 obtain rfl:az V=a9:=sU ax;have ay:=aJ V sQ;obtain⟨a,j,d,k,l,o,e,q,rfl,_⟩:=isNode.cells ay;obtain⟨g,rfl⟩:=aL 0 sQ;obtain⟨a',ba,ag,bO,aA⟩:=aI.nth (i:=0) (x:=(ae a j d k l (J o e q)).toList) Q;obtain⟨rfl,rfl⟩:g=a'/\ba=0:=by simp at ag;exact⟨ag.1,ag.2.symm⟩
 simp only[Nat.zero_mul,Nat.zero_add] at aA
 have aR:cx a:=by
  have v:az (ae a j d k l (J o e q)).toList=fJ a d e:=rfl;rw[v] at L;unfold fJ at L;split at L
  ·rename_i bP
   obtain⟨u,b⟩:=L;omega
  ·split at L
   ·obtain⟨u,b⟩:=L;omega
   ·exact L
 obtain⟨W,aU⟩:∃W:Int,(n=0/\W=6)\/(n=1/\W=7):=by
  rcases aQ with v|v
  ·exact⟨6,.inl ⟨v,Q⟩⟩
  ·exact⟨7,.inr ⟨v,Q⟩⟩
 have ah:Hid (isNode (λb=>b<B0) True h w (ae a j d k l (J o e q)).toList/\cx a/\∀F,F<11->w.cell? ⟨g,F,I⟩=(ae a j d k l (J o e q)).toList[F]?):=⟨ay,aR,aA⟩
 have bb:Hid (1+aG h w (ae a j d k l (J o e q)).toList*N<=ac):=by
  show _<=_;rw[aM,Nat.add_mul,Nat.one_mul];simp only[List.map_cons,List.map_nil,List.sum_cons,List.sum_nil,Nat.add_zero];omega
 clear av aM aI aJ au aK aL aH aQ ay aR aA L ax ag;have ai:Hid ((n=0/\W=6)\/(n=1/\W=7)):=aU;clear aU;clear aw aN aO aa ab;go_enter Tryz.func44,Tryz.ntmps44
 have aj:=λs=>cell_of_row _ _ s _ 48 (0,0) D.nb;have ak:=(gE D.nb).1;have al:=D.zb.cell;have ao:=D.zb.fz;have ap:=D.zb.lt;go_upto_region 11 with(go_at_call 64;refine(iQ D.c).mono ?_;rintro v aB ⟨rfl,rfl⟩)
 go_cut [5] (λbc bd=>∃(aC aV:Nat) (aW next bf fa:Int),bc=.pointer (aS aC)/\TM w f K how one (ae 16 pos n m name (J (aS g) [(ae a j d k l (J o e q)).toList].length kc)) bd next bf fa aC W 0 aV aW)
 case first=>
  have B:Hid (∀{t:World} {u b y:Int},PM w f K how one (ae 16 pos n m name (J (aS g) [(ae a j d k l (J o e q)).toList].length kc)) t u b y->(∃u b y,PM w f K how one (ae 16 pos n m name (J (aS g) [(ae a j d k l (J o e q)).toList].length kc)) t u b y)/\∀s,t.cell? ⟨E (U w),s,I⟩=(ae 16 pos n m name (J (aS g) [(ae a j d k l (J o e q)).toList].length kc))[s]?):=λ{t u b y} c=>⟨⟨u,b,y,c⟩,λs=>cell_of_row t _ s _ 48 (0,0) c.nb⟩;rcases ai.out with⟨rfl,rfl⟩|⟨rfl,rfl⟩
  ·clear ai
   go_region_held3 (λt=>(∃u b y,PM w f K how one (ae 16 pos 0 m name (J (aS g) [(ae a j d k l (J o e q)).toList].length kc)) t u b y)/\∀s,t.cell? ⟨E (U w),s,I⟩=(ae 16 pos 0 m name (J (aS g) [(ae a j d k l (J o e q)).toList].length kc))[s]?)
    (first|assumption|exact B.out (D.below ((Below.refl _ _).drew))|exact B.out (D.below ((al1 _ _).1.drew))|exact B.out r|exact B.out (r.below (al1 _ _).1)|exact B.out (r.below (dW _ _ _).1)|exact B.out ((r.uK Y _ _ _ _).below (al1 _ _).1))
    (first
     |(go_at_call 66;obtain⟨bg,bh,bi,R⟩:=(‹(∃u b y,PM w f K how one (ae 16 pos 0 m name (J (aS g) [(ae a j d k l (J o e q)).toList].length kc)) _ u b y)/\_›).1;refine(fE R.c (H.out.1.step H.out.2 R.k).lv H.out.1.lf _ _).mono ?_;rintro v aD ⟨z,bj,bk,bl,rfl,aE,Z,-⟩;have r:=R.step Z aE;have bm:=r.zb.lt;first|(have G:bA aD (E (U w)+1+1) eJ:=(Z.block (E (U w)+1+1) sQ oM).trans (mZ w _ _ _).2.2.2;have Y:E (U w)+1<E (U w)+1+1:=oM;have bn:=G.cell;have bo:=G.fz;have bp:=G.lt)|skip))
   all_goals
    go_wp2_with fail;go_meet
    first
     |exact⟨_,_,z,_,_,_,Q,TM.o1 r 6 0 z⟩
     |exact⟨_,_,z,_,_,_,Q,TM.o2 r 6 0 z⟩
     |exact⟨_,_,z,_,_,_,Q,TM.o3 r G Y 6 0 z⟩
  ·clear ai
   go_region_held3 (λt=>(∃u b y,PM w f K how one (ae 16 pos 1 m name (J (aS g) [(ae a j d k l (J o e q)).toList].length kc)) t u b y)/\∀s,t.cell? ⟨E (U w),s,I⟩=(ae 16 pos 1 m name (J (aS g) [(ae a j d k l (J o e q)).toList].length kc))[s]?)
    (first|assumption|exact B.out (D.below ((Below.refl _ _).drew))|exact B.out (D.below ((al1 _ _).1.drew))|exact B.out r|exact B.out (r.below (al1 _ _).1)|exact B.out (r.below (dW _ _ _).1)|exact B.out ((r.uK Y _ _ _ _).below (al1 _ _).1))
    (first
     |(go_at_call 66;obtain⟨bg,bh,bi,R⟩:=(‹(∃u b y,PM w f K how one (ae 16 pos 1 m name (J (aS g) [(ae a j d k l (J o e q)).toList].length kc)) _ u b y)/\_›).1;refine(fE R.c (H.out.1.step H.out.2 R.k).lv H.out.1.lf _ _).mono ?_;rintro v aD ⟨z,bj,bk,bl,rfl,aE,Z,-⟩;have r:=R.step Z aE;have bm:=r.zb.lt;first|(have G:bA aD (E (U w)+1+1) eJ:=(Z.block (E (U w)+1+1) sQ oM).trans (mZ w _ _ _).2.2.2;have Y:E (U w)+1<E (U w)+1+1:=oM;have bn:=G.cell;have bo:=G.fz;have bp:=G.lt)|skip))
   all_goals
    go_wp2_with fail;go_meet
    first
     |exact⟨_,_,z,_,_,_,Q,TM.o1 r 7 0 z⟩
     |exact⟨_,_,z,_,_,_,Q,TM.o2 r 7 0 z⟩
     |exact⟨_,_,z,_,_,_,Q,TM.o3 r G Y 7 0 z⟩
 case rest=>
  clear aj ak al ao ap;obtain⟨aC,aV,aW,bQ,bR,bS,rfl,c⟩:=hcut;have bq:Hid (Cx wc f K M T (λb=>S b/\b<E (U w)) ar N):=H.out.1.step H.out.2 c.pm.k;have br:Hid (isNode (λb=>b<B0) True h wc (ae a j d k l (J o e q)).toList):=isNode.frame (aP.out c.pm.k) _ _ ah.out.1;have bs:Hid (aG h wc (ae a j d k l (J o e q)).toList=aG h w (ae a j d k l (J o e q)).toList):=aT (aP.out c.pm.k) _ _ ah.out.1 _;have C:∀F,F<11->wc.cell? ⟨g,F,I⟩=(ae a j d k l (J o e q)).toList[F]? :=λF bt=>(c.pm.k.cell (p:=⟨g,F,I⟩) (by show g<_;omega) (by show g≠f;omega)).trans (ah.out.2.2 F bt);have bu:=C 0 dC;have bv:=C 1 dC;have bw:=C 2 dC;have bx:=C 3 dC;have bz:=C 4 dC;have bB:=C 5 dC;have bC:=C 6 dC;have bD:=C 7 dC;have bF:=C 8 dC;have bG:=C 9 dC;have bH:=C 10 dC;have au:g<E (U wc):=oH c.pm.k.size;clear C;have aX:=c.t.cell;have aY:=c.t.fz;have aZ:=c.t.lt;have aj:=λs=>cell_of_row wc _ s _ 48 (0,0) c.pm.nb;have ak:E (U w)<E (U wc):=(gE c.pm.nb).1;have al:=c.pm.zb.cell;have ao:=c.pm.zb.fz;have ap:=c.pm.zb.lt;have a0:=c.pm.c.cell;have a1:=c.pm.c.fz;have ad:=c.pm.c.lt;go_wp2_with fail;refine(a6.out bq.out c.pm.c a5 br.out ah.out.2.1).mono ?_;rintro v aB ⟨bT,bU,bW,bX,bY,bZ,b0,b1,b2,b3,b4,rfl,a2,a3,⟨b5,bI⟩,a4⟩;rw[bs.out] at a4;have A:=c.step a3 a2;have bK:=af.weaken (S':=λb=>(S b/\b<E (U w))\/E (U wc)<=b) (λb X _=>X) _ _ bI;clear bu bv bw bx bz bB bC bD bF bG bH aX aY aZ aj ak al ao ap a0 a1 ad;have aX:=A.t.cell;have aY:=A.t.fz;have aZ:=A.t.lt;have b6:=A.ne;have b7:=A.wV;have aj:=λs=>cell_of_row aB _ s _ 48 (0,0) A.pm.nb;have ak:E (U w)<E (U aB):=(gE A.pm.nb).1;have al:=A.pm.zb.cell;have ao:=A.pm.zb.fz;have ap:=A.pm.zb.lt;have a0:=A.pm.c.cell;have a1:=A.pm.c.fz;have ad:=A.pm.c.lt;go_wp2_with fail;go_light;exact xZ c (by rcases ai.out with v|v;exact .inl v.2;exact .inr v.2) a3 a2 bK a4 bb.out _ Q Q
end Go.Proofs.YtdghkacbpebcoaaGreat
