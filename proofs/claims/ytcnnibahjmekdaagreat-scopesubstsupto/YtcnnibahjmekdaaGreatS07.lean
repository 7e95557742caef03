import Derived.Test.YtcnnibahjmekdaaGreatS02
namespace Go.Proofs.YtcnnibahjmekdaaGreat
open Go.RowKit
open Value renaming slice→J
open List renaming length→O
open Option renaming none→I
open World renaming heap→U
open _root_.Array renaming size→E
open Obj renaming cells→Ob
set_option linter.all false
set_option maxRecDepth 100000
set_option maxHeartbeats 0
theorem uj {q:Nat} (aq:tL 109 True λ_=>True) (ar:tL 83 True λks=>∀x∈ks,x=12) (au:mK 1 84 False (-1) cH) (av:fj 69 7 q):gz 108 8 (q+1):=by
 intro w r s t c d aS h y;obtain⟨f,z⟩:∃f:Int,f=0:=⟨_,Q⟩;rw[<-z] at h y⊢;have aw:Hid (f=0):=z;clear z;have aT:=h.l;have ax:Hid (Bd (q+1) d c f 8):=y;clear y;have ay:Hid (∀L M N,(M=0->c<L)->N<64->Bd q d L M N):=ax.out.dA aw.out h.lt;have az:(0:Int)<=(d.pos c:Int)/\(d.pos c:Int)<=7000:=oH (h.ar.aO c);go_enter Tryz.func108,Tryz.ntmps108
 have a:=Mz.start (wt:=1) h;go_wp2_with fail;refine(a.ne' (sz w) (aB)).lf (aE · 46) ?_;clear a;intro l a;have b:=a.f1;go_wp2_with fail;refine(a.ne' (sz l) (nk 46 (d.pos c) nl)).wn (aH · _) ?_;clear a b;intro aU aV A B _ a;have b:=a.f2;go_wp2_with fail;refine a.et (aR · _) ?_;clear a b;intro aW aX aA aY a;have b:=a.f2;go_upto_if 9 with fail
 go_cut [] (λm=>∃(j:Int) (P:Nat) (S T:Int),Mz 1 w r s t d c f True (-16) m P S T [(sz l,ae 46 (d.pos c) j 0 ⟨#[]⟩ nl),(sz w,aB)] [] nl [])
 case first=>
  go_wp2_with fail
  ·go_wp2_with fail;go_meet;exact⟨1,aA,A,B,((a.jW 1).less oM)⟩
  ·go_wp2_with fail;refine a.et (aR · _) ?_;clear a b;intro aZ a0 V a1 a;have b:=a.f2;go_wp2_with fail
   ·go_wp2_with fail;go_meet;exact⟨2,V,A,B,((a.jW 2).less oM)⟩
   ·go_wp2_with fail;go_meet;exact⟨0,V,A,B,(a.less oM)⟩
 case rest=>
  clear b a;obtain⟨j,P,S,T,a⟩:=hcut;obtain⟨a2,n⟩:∃x,x=wc:=⟨_,Q⟩;subst n;have b:=a.f2;go_wp2_with fail;refine a.li aq ?_;clear a b;intro a3 C D e a4 a5 a6 W a7 _ a;have b:=a.f2;go_upto_region 9 with fail
  go_cut [] (λm=>∃(F:Value) (k:List (List Value)) (X:Nat) (Y Z:Int),O k<=12004/\Mz 1 w r s t d c f True (-16) m X Y Z [(sz l,ae 46 (d.pos c) j (O e:Int) ⟨#[]⟩ F),(sz w,aB)] [] F k)
  case first=>
   go_wp2_with fail;go_region_law (first|(refine jh (v:=(J C (O e) D)) (xv:=(J aC (O i) aD)) (R:=λaF aG=>∃o p,aF=(J o (O e+O i) p)/\Mz 1 w r s t d c f True (-16) aG aa ab ac [(sz l,ae 46 (d.pos c) j (O e:Int) ⟨#[]⟩ (J C (O e) D)),(sz w,aB)] [] (J o (O e+O i) p) (e++i)) rQ rQ rQ rQ (Mz.gV (us:=i) a G (lT W dC) (lT ad dC) _) ?_;rintro a8 a9 ⟨o,p,rfl,af⟩;replace a:=af;clear G af;replace b:=a.f2)|(replace a:=((a.ek (J C (O e) D)).vh (O e:Int)).drew;go_simp;refine(ar a.st.rd).mono ?_;rintro ag a' ⟨aC,aD,i,aa,ab,ac,rfl,H,G,ad,ba,aI⟩;replace a:=(a.holds H G aI).up (g':=True) (λ_ ag=>Nat.lt_of_le_of_lt a.le (H.go trivial ag));clear H;replace b:=a.f2))
   all_goals
    go_wp2_with fail;go_meet;exact⟨(J o (O e+O i) p),(e++i),aa,ab,ac,(by have:=W;have:=ad;simp;omega),((a.ek (J o (O e+O i) p)).less oM)⟩
  case rest=>
   clear b a;obtain⟨F,k,X,Y,Z,ah,a⟩:=hcut;obtain⟨bb,n⟩:∃x,x=wc:=⟨_,Q⟩;subst n;have b:=a.f2;obtain⟨bc,bd,rfl⟩:=a.shape;replace b:=a.f2;go_upto_region 10 with fail
   go_cut [] (λm=>∃(K:Value) (u:List (List Value)) (ai:Nat) (aj ak:Int),O u<=12005/\Mz 1 w r s t d c f True (-15) m ai aj ak [(sz l,ae 46 (d.pos c) j (O e:Int) ⟨#[]⟩ K),(sz w,aB)] [] K u)
   case first=>
    go_wp2_with fail;go_region_law (first|(refine a.as (sz aJ) (lT ah dC) ?_;clear a b;intro bf al ao a;have b:=a.f2)|(go_simp;refine a.drew.nn au ?_;clear a b;intro aJ aK aL aM aN bg _ a;have b:=a.f2))
    all_goals
     go_wp2_with fail;go_meet;exact⟨(J al (O k+1) ao),(k++[aK.t]),aL,aM,aN,(by have:=ah;simp;omega),((a.ek (J al (O k+1) ao)).less oM)⟩
   case rest=>
    clear b a;obtain⟨K,u,ai,aj,ak,ap,a⟩:=hcut;obtain⟨bh,n⟩:∃x,x=wc:=⟨_,Q⟩;subst n;have b:=a.f2;obtain⟨bi,bj,rfl⟩:=a.shape;replace b:=a.f2;go_wp2_with fail;go_region_law (first|(refine a.as (sz aO) (lT ap dC) ?_;clear a b;intro bk aP aQ a;have b:=a.f2)|(replace a:=a.drew;go_simp;refine a.nd (av · (a.bd ay.out dC)) ?_;clear a b;intro aO bl bm bn bo bp _ a;have b:=a.f2))
    all_goals
     go_wp2_with fail;go_light;exact((a.ek (J aP (O u+1) aQ)).fo 46 (d.pos c) j (O e:Int) ⟨#[]⟩ (by have:=ap;simp;omega) az).rt Tryz.results108 1
theorem zM {k:Nat} (q:fj 110 16 k):fj 103 17 (k+1):=by
 intro w D F G i b l V h r;have W:=h.l;have s:Hid (Bd (k+1) b i l 17):=r;clear r;have X:(0:Int)<=(b.pos i:Int)/\(b.pos i:Int)<=7000:=oH (h.ar.aO i);go_enter Tryz.func103,Tryz.ntmps103
 have a:=Mz.start (wt:=1) h;go_wp2_with fail;replace a:=a.ne' (sz w) (aB);refine a.nd (q · (s.out.down a.le a.ok dC)) ?_;clear a;intro t u v x H Y _ a;have d:=a.f1;go_wp2_with fail;go_loopg [4] (ml b v x) (λg _ wr=>∃(m:Nf) (c:Nat) (j y:Int),g=ml b c j/\Mz 1 w D F G b i l True (-8) wr c j y [(sz t,m.a),(sz w,aB)] [m.t] nl [])
 case atStart=>exact⟨u,v,x,H,Q,(a.ne' (sz t) u.a).less oM⟩
 case round=>
  clear d a;obtain⟨m,c,j,y,z,a⟩:=hrel;have K:=a.st.rd.lt;have n:(0:Int)<=(b.pos c:Int)/\(b.pos c:Int)<=7000:=oH (h.ar.aO c);have L:Hid (gk=ml b c j):=z;clear z;have d:=a.f2
  cases M:(j==0)
  ·go_wp2_with fail;refine a.lf aV ?_;clear a d;intro Z a;have d:=a.f2;go_wp2_with fail;go_light;exact a.rt Tryz.results103 1
  ·obtain rfl:j=0:=sU M;have f:Hid (i<=c/\l=0/\i<c):=⟨a.le,a.ok Q,a.go trivial Q⟩;have N:Hid (∀o A p,c<=o->p<64->Bd k b o A p):=λo A p P R=>s.out.dA f.out.2.1 h.lt _ _ _ (λ_=>Nat.lt_of_lt_of_le f.out.2.2 P) R;replace a:=a.bU;go_wp2_with fail;refine a.lf aV ?_;clear a d;intro aa a;have d:=a.f2;go_wp2_with fail;refine a.lf (aW · 0 dC _) ?_;clear a d;intro ab a;have d:=a.f2;go_wp2_with fail
   ·go_wp2_with fail;refine a.lf (aE · 31) ?_;clear a d;intro S a;have d:=a.f2;go_wp2_with fail;refine(a.ne' (sz S) (nk 31 (b.pos c) nl)).wn (aH · _) ?_;clear a d;intro ac ad ae af _ a;have d:=a.f3;go_wp2_with fail;go_region_law (replace a:=a.drew;go_simp;refine a.nd (q · (N.out _ _ _ a.le dC)) ?_;clear a d;intro e ag B C T ah _ a;have d:=a.f3)
    all_goals
     go_wp2_with fail;go_roundg (ml b B C)
     case measure=>rw[L.out];exact bO K ((((a.swap).ek (sl (sz e) 2)).nh 31 (b.pos c) 0 0 ⟨#[]⟩ (sl (sz e) 2)).l2 (sz e) 31 (b.pos c) 0 0 ⟨#[]⟩ n).pop.le (((((a.swap).ek (sl (sz e) 2)).nh 31 (b.pos c) 0 0 ⟨#[]⟩ (sl (sz e) 2)).l2 (sz e) 31 (b.pos c) 0 0 ⟨#[]⟩ n).pop.go trivial)
     case rel=>exact⟨⟨31,(b.pos c),0,0,⟨#[]⟩,(some ⟨(sz e),0,I⟩),2,2⟩,B,C,T,Q,((((a.swap).ek (sl (sz e) 2)).nh 31 (b.pos c) 0 0 ⟨#[]⟩ (sl (sz e) 2)).l2 (sz e) 31 (b.pos c) 0 0 ⟨#[]⟩ n).pop.aD (s':= -8) (g':=True) f.out.1 (λ_=>f.out.2.1) (λ_ _=>f.out.2.2) oM⟩
   ·go_wp2_with fail;go_light;exact(a.aD (s':= -8) (g':=True) f.out.1 (λ_=>f.out.2.1) (λ_ _=>f.out.2.2) oM).rt Tryz.results103 1
end Go.Proofs.YtcnnibahjmekdaaGreat
