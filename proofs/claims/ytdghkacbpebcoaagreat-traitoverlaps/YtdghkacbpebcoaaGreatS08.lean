import Derived.Test.YtdghkacbpebcoaaGreatS02
namespace Go.Proofs.YtdghkacbpebcoaaGreat
open Go.RowKit
open Value renaming slice→J
open List renaming length→O
open Option renaming none→I
open World renaming heap→U
open _root_.Array renaming size→E
open Obj renaming cells→Ob
set_option linter.all false
set_option maxRecDepth 100000
set_option maxHeartbeats 0
theorem wI {q:Nat} (ak:eS 82 18 q) (al:eS 81 10 q) (ao:eS 79 7 q):eS 63 7 (q+1):=by
 intro w H K L e t y aO h M;have aP:=h.l;have ap:Hid (Bd (q+1) t e y 7):=M;clear M;have N:(0:Int)<=(t.pos e:Int)/\(t.pos e:Int)<=7000:=oH (h.ar.aQ e);go_enter Tryz.func63,Tryz.ntmps63
 have a:=Mz.start (wt:=1) h;go_wp2_with fail;refine(a.ne' (sz w) (aB)).lf (aF · 42) ?_;clear a;intro z a;have b:=a.f1;go_wp2_with fail;refine(a.ne' (sz z) (nk 42 (t.pos e) nl)).wn (aI · _) ?_;clear a b;intro aQ P R aq _ a;have b:=a.f2;go_wp2_with fail;go_loopg [4,5] (ml t P R) (λg _ _ wr=>∃(A:Value) (d:List (List Value)) (j:Int) (f:Nat) (m S:Int),g=ml t f m/\dQ 4 d f m/\Mz 1 w H K L t e y True (-16) wr f m S [(sz z,ae 42 (t.pos e) j 0 ⟨#[]⟩ A),(sz w,aB)] [] A d)
 case atStart=>exact⟨nl,[],0,P,R,aq,Q,⟨λ_=>by simp,sQ⟩,(a.less oM)⟩
 case round=>
  clear b a;obtain⟨A,d,j,f,m,S,T,hF,a⟩:=hrel;have i:=a.st.rd.lt;have aR:(0:Int)<=(t.pos f:Int)/\(t.pos f:Int)<=7000:=oH (h.ar.aQ f);have r:Hid (gk=ml t f m):=T;clear T;obtain⟨V,W,rfl⟩:=a.shape;have b:=a.f2
  cases ar:(m==0)
  ·go_wp2_with fail;refine a.lf aW ?_;clear a b;intro aS a;have b:=a.f2;go_wp2_with fail;go_light;exact(a.fo 42 (t.pos e) j 0 ⟨#[]⟩ (lT hF.2 dC) N).rt Tryz.results63 1
  ·obtain rfl:m=0:=sU ar;have c:Hid (e<=f/\y=0/\e<f):=⟨a.le,a.ok Q,a.go trivial Q⟩;have B:Hid (∀C X D,f<=C->D<64->Bd q t C X D):=λC X D au av=>ap.out.dh c.out.2.1 h.lt _ _ _ (λ_=>Nat.lt_of_lt_of_le c.out.2.2 au) av;have Y:O d<=6005:=oI (hF.1 Q) h.ar.bj;replace a:=a.bP;go_wp2_with fail;refine a.lf aW ?_;clear a b;intro aT a;have b:=a.f2;go_wp2_with fail;refine a.et (aU · _) ?_;clear a b;intro aV aY aZ a0 a;have b:=a.f2;go_wp2_with fail
   ·go_wp2_with fail;refine a.lf (aX · 0 dC _) ?_;clear a b;intro a1 a;have b:=a.f2;go_wp2_with fail
    ·go_wp2_with fail;go_region_law (first|(refine a.as (sz aw) (lT Y dC) ?_;clear a b;intro a2 Z aa a;have b:=a.f2)|(replace a:=a.drew;go_simp;refine a.nd (ao · (B.out _ _ _ a.le dC)) ?_;clear a b;intro aw ax a3 a4 a5 a6 _ a;have b:=a.f2))
     all_goals
      go_wp2_with fail;refine(a.dT (J Z (O d+1) aa)).wn (aI · _) ?_;clear a b;intro a7 ab ac ay _ a;have b:=a.f2;go_wp2_with fail;go_roundg (ml t ab ac)
      case measure=>rw[r.out];exact bN i a.le (a.go trivial)
      case rel=>exact⟨(J Z (O d+1) aa),(d++[ax.t]),j,ab,ac,ay,Q,dQ.snoc (t:=t) hF Q i h.ar (a.go trivial),a.aE (s':= -16) (g':=True) c.out.1 (λ_=>c.out.2.1) (λ_ _=>c.out.2.2) oM⟩
    ·go_wp2_with fail;refine(pB a.st.rd).mono ?_;rintro s F ⟨⟨a8,rfl⟩,ad⟩;replace a:=a.below ad;clear ad;replace b:=a.f2;go_upto_if 30 with fail
     go_cut [4] (λaz aA=>∃(af:Bool) (n:Nf) (ag:Nat) (k u:Int),az=.bool af/\Mz 1 w H K L t f 0 True (16*((f:Int) - (e:Int))+(-24)) aA ag k u [(sz F,n.a),(sz z,ae 42 (t.pos e) j 0 ⟨#[]⟩ (J V (O d) W)),(sz w,aB)] [n.t] (J V (O d) W) d)
     case first=>
      go_wp2_with fail
      ·go_wp2_with fail;replace a:=a.ne' (sz F) (aB);refine a.nd (al · (B.out _ _ _ a.le dC)) ?_;clear a b;intro a9 o aC aD aE a' _ a;have b:=a.f3;go_wp2_with fail;go_meet;exact⟨true,o,aC,aD,aE,Q,((a.yS o.k o.p o.n o.m o.s o.v).less oM)⟩
      ·go_wp2_with fail;replace a:=a.ne' (sz F) (aB);refine a.nd (ak · (B.out _ _ _ a.le dC)) ?_;clear a b;intro ba p aG aH aJ bb _ a;have b:=a.f3;go_wp2_with fail;go_meet;exact⟨false,p,aG,aH,aJ,Q,((a.yS p.k p.p p.n p.m p.s p.v).less oM)⟩
     case rest=>
      clear b a;obtain⟨af,n,ag,k,u,rfl,a⟩:=hcut;obtain⟨aK,aL⟩:∃aM,aM=wc:=⟨_,Q⟩;subst aL;have b:=a.f3;go_wp2_with (at_builtin;refine a.ap (sz aK) (lT Y dC) ?_;clear a b;intro bc v x a;have b:=a.f3)
      go_wp2_with fail;refine(a.iU (J v (O d+1) x)).et (aU · _) ?_;clear a b;intro bd bf l bg a;have b:=a.f3;go_wp2_with fail
      ·go_wp2_with fail;replace a:=a.pop;go_roundg (ml t l k)
       case measure=>rw[r.out];exact bN i a.le (a.go trivial)
       case rel=>exact⟨(J v (O d+1) x),(d++[n.t]),j,l,k,u,Q,dQ.snoc (t:=t) hF Q i h.ar (a.go trivial),a.aE (s':= -16) (g':=True) c.out.1 (λ_=>c.out.2.1) (λ_ _=>c.out.2.2) oM⟩
      ·go_wp2_with fail;refine a.lf (aX · 0 dC _) ?_;clear a b;intro bh a;have b:=a.f3;go_wp2_with fail
       ·go_wp2_with fail;replace a:=(a.qR 1).pop;go_roundg (ml t l k)
        case measure=>rw[r.out];exact bN i a.le (a.go trivial)
        case rel=>exact⟨(J v (O d+1) x),(d++[n.t]),1,l,k,u,Q,dQ.snoc (t:=t) hF Q i h.ar (a.go trivial),a.aE (s':= -16) (g':=True) c.out.1 (λ_=>c.out.2.1) (λ_ _=>c.out.2.2) oM⟩
       ·go_wp2_with fail;refine(ik a.st.rd).mono ?_;rintro s bi ⟨rfl,⟨ah,aN,G,ai⟩,aj⟩;replace a:=((a.rk ai aj (lR _) (λs=>absurd s G)).up (g':=True) (λ_ s=>absurd s G)).dead (s':=(16*((f:Int) - (e:Int))+(-100))) G;clear ai aj;replace b:=a.f3;go_wp2_with fail;replace a:=a.pop;go_roundg (ml t l ah)
        case measure=>rw[r.out];exact bN i a.le (a.go trivial)
        case rel=>exact⟨(J v (O d+1) x),(d++[n.t]),j,l,ah,aN,Q,dQ.snoc (t:=t) hF Q i h.ar (a.go trivial),a.aE (s':= -16) (g':=True) c.out.1 (λ_=>c.out.2.1) (λ_ _=>c.out.2.2) oM⟩
       ·go_wp2_with fail;replace a:=a.pop;go_roundg (ml t l k)
        case measure=>rw[r.out];exact bN i a.le (a.go trivial)
        case rel=>exact⟨(J v (O d+1) x),(d++[n.t]),j,l,k,u,Q,dQ.snoc (t:=t) hF Q i h.ar (a.go trivial),a.aE (s':= -16) (g':=True) c.out.1 (λ_=>c.out.2.1) (λ_ _=>c.out.2.2) oM⟩
   ·go_wp2_with fail;go_light;exact((a.fo 42 (t.pos e) j 0 ⟨#[]⟩ (lT hF.2 dC) N).aE (s':= -15) (g':=True) c.out.1 (λ_=>c.out.2.1) (λ_ _=>c.out.2.2) oM).rt Tryz.results63 1
theorem yX {e:Nat} (M:∀e,nh 1 e) (N:eS 82 18 e):eS 79 7 (e+1):=by
 intro w r s t c d j ag h u;have ah:=h.l;have P:Hid (Bd (e+1) d c j 7):=u;clear u;have v:(0:Int)<=(d.pos c:Int)/\(d.pos c:Int)<=7000:=oH (h.ar.aQ c);go_enter Tryz.func79,Tryz.ntmps79
 have a:=Mz.start (wt:=1) h;go_wp2_with fail;refine(a.ne' (sz w) (aB)).lf (aF · 43) ?_;clear a;intro m a;have b:=a.f1;go_wp2_with fail;refine(a.ne' (sz m) (nk 43 (d.pos c) nl)).wn (aI · _) ?_;clear a b;intro ai aj x y _ a;have b:=a.f2;go_wp2_with fail;refine a.et (aU · _) ?_;clear a b;intro ak al z ao a;have b:=a.f2;go_upto_if 9 with fail
 go_cut [] (λn=>∃(f:Int) (A:Nat) (B C:Int),Mz 1 w r s t d c j True (-16) n A B C [(sz m,ae 43 (d.pos c) 0 f ⟨#[]⟩ nl),(sz w,aB)] [] nl [])
 case first=>
  go_wp2_with fail
  ·go_wp2_with fail;go_meet;exact⟨1,z,x,y,((a.uT 1).less oM)⟩
  ·go_wp2_with fail;go_meet;exact⟨0,z,x,y,(a.less oM)⟩
 case rest=>
  clear b a;obtain⟨f,A,B,C,a⟩:=hcut;obtain⟨ap,o⟩:∃p,p=wc:=⟨_,Q⟩;subst o;have b:=a.f2;go_wp2_with fail;refine a.nm cD ?_;clear a b;intro aq k ar R S D au _ a;have b:=a.f2;go_wp2_with fail;refine(a.gI k).et (aU · _) ?_;clear a b;intro av aw T ax a;have b:=a.f2;go_upto_if 15 with fail
  go_cut [] (λn=>∃(i:Int) (q:Value) (l:List (List Value)) (F:Nat) (G H:Int),O l<=1/\Mz 1 w r s t d c j True (-32) n F G H [(sz m,ae 43 (d.pos c) i f k q),(sz w,aB)] [] q l)
  case first=>
   go_wp2_with fail
   ·go_wp2_with fail;go_region_law (first|(refine a.as (sz V) sQ ?_;clear a b;intro ay K L a;have b:=a.f2)|(go_simp;refine(a.jV 1).drew.nd (M _ · (fM _ _ _ 3)) ?_;clear a b;intro V W X Y Z az _ a;have b:=a.f2))
    all_goals
     go_wp2_with fail;go_meet;exact⟨1,(J K (0+1) L),([]++[W.t]),X,Y,Z,sQ,((a.dT (J K (0+1) L)).less oM)⟩
   ·go_wp2_with fail;go_meet;exact⟨0,nl,[],T,R,S,sQ,(a.less oM)⟩
  case rest=>
   clear b a;obtain⟨i,q,l,F,G,H,aA,a⟩:=hcut;obtain⟨aC,o⟩:∃p,p=wc:=⟨_,Q⟩;subst o;have b:=a.f2;obtain⟨aD,aE,rfl⟩:=a.shape;go_wp2_with fail;refine a.et (aU · _) ?_;clear a b;intro aG aH aJ aa a;have b:=a.f2;go_wp2_with fail
   ·have ab:Hid (j=0):=a.ok (aa.yes ‹_›).2;go_wp2_with fail;go_region_law (first|(refine a.as (sz ac) oM ?_;clear a b;intro aK ad af a;have b:=a.f2)|(replace a:=(a.jV (wrap64 (i+2))).drew;go_simp;refine a.nd (N · (a.bd (P.out.dh ab.out h.lt) dC)) ?_;clear a b;intro ac aL aM aN aO aP _ a;have b:=a.f2))
    all_goals
     go_wp2_with fail;go_light;exact((a.dT (J ad (O l+1) af)).fo 43 (d.pos c) (wrap64 (i+2)) f k (by first|(simp;omega)|omega) v (lT D dC)).rt Tryz.results79 1
   ·go_wp2_with fail;go_light;exact(a.fo 43 (d.pos c) i f k (by first|(simp;omega)|omega) v (lT D dC)).rt Tryz.results79 1
end Go.Proofs.YtdghkacbpebcoaaGreat
