import Derived.Test.YtcnnibahjmekdaaGreatS02
namespace Go.Proofs.YtcnnibahjmekdaaGreat
open Go.RowKit
open Value renaming slice→J
open List renaming length→O
open Option renaming none→I
open World renaming heap→U
open _root_.Array renaming size→E
open Obj renaming cells→Ob
set_option linter.all false
set_option maxRecDepth 100000
set_option maxHeartbeats 0
theorem xh {q:Nat} (ak:fj 88 18 q) (al:fj 87 10 q) (ao:fj 85 7 q):fj 69 7 (q+1):=by
 intro w H K L e t y aO h M;have aP:=h.l;have ap:Hid (Bd (q+1) t e y 7):=M;clear M;have N:(0:Int)<=(t.pos e:Int)/\(t.pos e:Int)<=7000:=oH (h.ar.aO e);go_enter Tryz.func69,Tryz.ntmps69
 have a:=Mz.start (wt:=1) h;go_wp2_with fail;refine(a.ne' (sz w) (aB)).lf (aE · 42) ?_;clear a;intro z a;have b:=a.f1;go_wp2_with fail;refine(a.ne' (sz z) (nk 42 (t.pos e) nl)).wn (aH · _) ?_;clear a b;intro aQ P R aq _ a;have b:=a.f2;go_wp2_with fail;go_loopg [4,5] (ml t P R) (λg _ _ wr=>∃(A:Value) (d:List (List Value)) (j:Int) (f:Nat) (m S:Int),g=ml t f m/\ez 4 d f m/\Mz 1 w H K L t e y True (-16) wr f m S [(sz z,ae 42 (t.pos e) j 0 ⟨#[]⟩ A),(sz w,aB)] [] A d)
 case atStart=>exact⟨nl,[],0,P,R,aq,Q,⟨λ_=>by simp,sQ⟩,(a.less oM)⟩
 case round=>
  clear b a;obtain⟨A,d,j,f,m,S,T,hF,a⟩:=hrel;have i:=a.st.rd.lt;have aS:(0:Int)<=(t.pos f:Int)/\(t.pos f:Int)<=7000:=oH (h.ar.aO f);have r:Hid (gk=ml t f m):=T;clear T;obtain⟨V,W,rfl⟩:=a.shape;have b:=a.f2
  cases ar:(m==0)
  ·go_wp2_with fail;refine a.lf aV ?_;clear a b;intro aT a;have b:=a.f2;go_wp2_with fail;go_light;exact(a.fo 42 (t.pos e) j 0 ⟨#[]⟩ (lT hF.2 dC) N).rt Tryz.results69 1
  ·obtain rfl:m=0:=sU ar;have c:Hid (e<=f/\y=0/\e<f):=⟨a.le,a.ok Q,a.go trivial Q⟩;have B:Hid (∀C X D,f<=C->D<64->Bd q t C X D):=λC X D au av=>ap.out.dA c.out.2.1 h.lt _ _ _ (λ_=>Nat.lt_of_lt_of_le c.out.2.2 au) av;have Y:O d<=6005:=oI (hF.1 Q) h.ar.bB;replace a:=a.bU;go_wp2_with fail;refine a.lf aV ?_;clear a b;intro aU a;have b:=a.f2;go_wp2_with fail;refine a.et (aR · _) ?_;clear a b;intro aX aY aZ a0 a;have b:=a.f2;go_wp2_with fail
   ·go_wp2_with fail;refine a.lf (aW · 0 dC _) ?_;clear a b;intro a1 a;have b:=a.f2;go_wp2_with fail
    ·go_wp2_with fail;go_region_law (first|(refine a.as (sz aw) (lT Y dC) ?_;clear a b;intro a2 Z aa a;have b:=a.f2)|(replace a:=a.drew;go_simp;refine a.nd (ao · (B.out _ _ _ a.le dC)) ?_;clear a b;intro aw ax a3 a4 a5 a6 _ a;have b:=a.f2))
     all_goals
      go_wp2_with fail;refine(a.ek (J Z (O d+1) aa)).wn (aH · _) ?_;clear a b;intro a7 ab ac ay _ a;have b:=a.f2;go_wp2_with fail;go_roundg (ml t ab ac)
      case measure=>rw[r.out];exact bO i a.le (a.go trivial)
      case rel=>exact⟨(J Z (O d+1) aa),(d++[ax.t]),j,ab,ac,ay,Q,ez.snoc (t:=t) hF Q i h.ar (a.go trivial),a.aD (s':= -16) (g':=True) c.out.1 (λ_=>c.out.2.1) (λ_ _=>c.out.2.2) oM⟩
    ·go_wp2_with fail;refine(pJ a.st.rd).mono ?_;rintro s F ⟨⟨a8,rfl⟩,ad⟩;replace a:=a.below ad;clear ad;replace b:=a.f2;go_upto_if 30 with fail
     go_cut [4] (λaz aA=>∃(af:Bool) (n:Nf) (ag:Nat) (k u:Int),az=.bool af/\Mz 1 w H K L t f 0 True (16*((f:Int) - (e:Int))+(-24)) aA ag k u [(sz F,n.a),(sz z,ae 42 (t.pos e) j 0 ⟨#[]⟩ (J V (O d) W)),(sz w,aB)] [n.t] (J V (O d) W) d)
     case first=>
      go_wp2_with fail
      ·go_wp2_with fail;replace a:=a.ne' (sz F) (aB);refine a.nd (al · (B.out _ _ _ a.le dC)) ?_;clear a b;intro a9 o aC aD aF a' _ a;have b:=a.f3;go_wp2_with fail;go_meet;exact⟨true,o,aC,aD,aF,Q,((a.zh o.k o.p o.n o.m o.s o.v).less oM)⟩
      ·go_wp2_with fail;replace a:=a.ne' (sz F) (aB);refine a.nd (ak · (B.out _ _ _ a.le dC)) ?_;clear a b;intro ba p aG aI aJ bb _ a;have b:=a.f3;go_wp2_with fail;go_meet;exact⟨false,p,aG,aI,aJ,Q,((a.zh p.k p.p p.n p.m p.s p.v).less oM)⟩
     case rest=>
      clear b a;obtain⟨af,n,ag,k,u,rfl,a⟩:=hcut;obtain⟨aK,aL⟩:∃aM,aM=wc:=⟨_,Q⟩;subst aL;have b:=a.f3;go_wp2_with (at_builtin;refine a.ap (sz aK) (lT Y dC) ?_;clear a b;intro bc v x a;have b:=a.f3)
      go_wp2_with fail;refine(a.iW (J v (O d+1) x)).et (aR · _) ?_;clear a b;intro bd bf l bg a;have b:=a.f3;go_wp2_with fail
      ·go_wp2_with fail;replace a:=a.pop;go_roundg (ml t l k)
       case measure=>rw[r.out];exact bO i a.le (a.go trivial)
       case rel=>exact⟨(J v (O d+1) x),(d++[n.t]),j,l,k,u,Q,ez.snoc (t:=t) hF Q i h.ar (a.go trivial),a.aD (s':= -16) (g':=True) c.out.1 (λ_=>c.out.2.1) (λ_ _=>c.out.2.2) oM⟩
      ·go_wp2_with fail;refine a.lf (aW · 0 dC _) ?_;clear a b;intro bh a;have b:=a.f3;go_wp2_with fail
       ·go_wp2_with fail;replace a:=(a.rr 1).pop;go_roundg (ml t l k)
        case measure=>rw[r.out];exact bO i a.le (a.go trivial)
        case rel=>exact⟨(J v (O d+1) x),(d++[n.t]),1,l,k,u,Q,ez.snoc (t:=t) hF Q i h.ar (a.go trivial),a.aD (s':= -16) (g':=True) c.out.1 (λ_=>c.out.2.1) (λ_ _=>c.out.2.2) oM⟩
       ·go_wp2_with fail;refine(ir a.st.rd).mono ?_;rintro s bi ⟨rfl,⟨ah,aN,G,ai⟩,aj⟩;replace a:=((a.rk ai aj (lR _) (λs=>absurd s G)).up (g':=True) (λ_ s=>absurd s G)).dead (s':=(16*((f:Int) - (e:Int))+(-100))) G;clear ai aj;replace b:=a.f3;go_wp2_with fail;replace a:=a.pop;go_roundg (ml t l ah)
        case measure=>rw[r.out];exact bO i a.le (a.go trivial)
        case rel=>exact⟨(J v (O d+1) x),(d++[n.t]),j,l,ah,aN,Q,ez.snoc (t:=t) hF Q i h.ar (a.go trivial),a.aD (s':= -16) (g':=True) c.out.1 (λ_=>c.out.2.1) (λ_ _=>c.out.2.2) oM⟩
       ·go_wp2_with fail;replace a:=a.pop;go_roundg (ml t l k)
        case measure=>rw[r.out];exact bO i a.le (a.go trivial)
        case rel=>exact⟨(J v (O d+1) x),(d++[n.t]),j,l,k,u,Q,ez.snoc (t:=t) hF Q i h.ar (a.go trivial),a.aD (s':= -16) (g':=True) c.out.1 (λ_=>c.out.2.1) (λ_ _=>c.out.2.2) oM⟩
   ·go_wp2_with fail;go_light;exact((a.fo 42 (t.pos e) j 0 ⟨#[]⟩ (lT hF.2 dC) N).aD (s':= -15) (g':=True) c.out.1 (λ_=>c.out.2.1) (λ_ _=>c.out.2.2) oM).rt Tryz.results69 1
section
variable{a k:Int} {N cap i rb tb:Nat} {t:Tk} {w:World}
theorem pn (n:iJ 115 4 N) (h:Rd w rb tb cap t i k a) (d:Bd (N+1) t i k 3) (e:bW t i k 0 ⟨#[95]⟩=false) (f:bW t i k 0 ⟨#[45]⟩=false) (o:cq t i k 0 1=false) (j:bW t i k 0 ⟨#[116,114,117,101]⟩=true):Calls Tryz.prog 113 #[.pointer (some ⟨rb,0,I⟩)] w (aY 1 w rb tb cap t i k True 8 λ_=>True):=by
 have p:=h.l;have q:Hid (Bd (N+1) t i k 3):=d;clear d;have l:(0:Int)<=(t.pos i:Int)/\(t.pos i:Int)<=7000:=oH (h.ar.aO i);go_enter Tryz.func113,Tryz.ntmps113
 have r:(i:Int)<(t.len:Int):=oH h.lt;have s:(t.len:Int)<=6001:=oH h.ar.bB;have u:=er;have b:=Mz.start (wt:=1) h;go_wp2_with fail;refine(b.ne' (sz w) (aB)).lf (aE · 0) ?_;clear b;intro m b;have c:=b.f1;go_wp2_with fail;refine(b.ne' (sz m) (nk 0 (t.pos i) nl)).lf (bu · _ e) ?_;clear b c;intro v b;have c:=b.f2;go_wp2_with fail;refine b.lf (bu · _ f) ?_;clear b c;intro x b;have c:=b.f2;go_wp2_with fail;refine b.lf (bH · 0 dC 1) ?_;clear b c;intro y b;have c:=b.f2;go_wp2_with fail;refine b.lf (aW · 0 dC _) ?_;clear b c;intro z b;have c:=b.f2;go_wp2_with fail;refine(b.fE 52).ey (eP · _ j) ?_;clear b c;intro A b;have c:=b.f2;go_wp2_with fail;go_light;exact((b.jW 1).lk 52 (t.pos i) 1 0 ⟨#[]⟩ l).rt Tryz.results113 1
theorem pk (n:iJ 115 4 N) (h:Rd w rb tb cap t i k a) (d:Bd (N+1) t i k 3) (e:bW t i k 0 ⟨#[95]⟩=false) (f:bW t i k 0 ⟨#[45]⟩=false) (o:cq t i k 0 1=false) (j:bW t i k 0 ⟨#[116,114,117,101]⟩=false) (p:bW t i k 0 ⟨#[102,97,108,115,101]⟩=true):Calls Tryz.prog 113 #[.pointer (some ⟨rb,0,I⟩)] w (aY 1 w rb tb cap t i k True 8 λ_=>True):=by
 have q:=h.l;have r:Hid (Bd (N+1) t i k 3):=d;clear d;have l:(0:Int)<=(t.pos i:Int)/\(t.pos i:Int)<=7000:=oH (h.ar.aO i);go_enter Tryz.func113,Tryz.ntmps113
 have s:(i:Int)<(t.len:Int):=oH h.lt;have u:(t.len:Int)<=6001:=oH h.ar.bB;have v:=er;have b:=Mz.start (wt:=1) h;go_wp2_with fail;refine(b.ne' (sz w) (aB)).lf (aE · 0) ?_;clear b;intro m b;have c:=b.f1;go_wp2_with fail;refine(b.ne' (sz m) (nk 0 (t.pos i) nl)).lf (bu · _ e) ?_;clear b c;intro x b;have c:=b.f2;go_wp2_with fail;refine b.lf (bu · _ f) ?_;clear b c;intro y b;have c:=b.f2;go_wp2_with fail;refine b.lf (bH · 0 dC 1) ?_;clear b c;intro z b;have c:=b.f2;go_wp2_with fail;refine b.lf (aW · 0 dC _) ?_;clear b c;intro A b;have c:=b.f2;go_wp2_with fail;refine b.lf (aW · 0 dC _) ?_;clear b c;intro B b;have c:=b.f2;go_wp2_with fail;refine(b.fE 52).lf (bu · _ j) ?_;clear b c;intro C b;have c:=b.f2;go_wp2_with fail;refine b.wn (aH · _) ?_;clear b c;intro D F G H _ b;have c:=b.f2;go_wp2_with fail;go_light;exact(b.lk 52 (t.pos i) 0 0 ⟨#[]⟩ l).rt Tryz.results113 1
theorem pj (n:iJ 115 4 N) (h:Rd w rb tb cap t i k a) (f:Bd (N+1) t i k 3) (o:bW t i k 0 ⟨#[95]⟩=false) (p:bW t i k 0 ⟨#[45]⟩=false) (z:cq t i k 0 1=false) (A:bW t i k 0 ⟨#[116,114,117,101]⟩=false) (B:bW t i k 0 ⟨#[102,97,108,115,101]⟩=false) (j:bW t i k 0 ⟨#[40]⟩=true):Calls Tryz.prog 113 #[.pointer (some ⟨rb,0,I⟩)] w (aY 1 w rb tb cap t i k True 8 λ_=>True):=by
 have D:=h.l;have q:Hid (Bd (N+1) t i k 3):=f;clear f;have r:(0:Int)<=(t.pos i:Int)/\(t.pos i:Int)<=7000:=oH (h.ar.aO i);go_enter Tryz.func113,Tryz.ntmps113
 have F:(i:Int)<(t.len:Int):=oH h.lt;have G:(t.len:Int)<=6001:=oH h.ar.bB;have H:=er;have b:=Mz.start (wt:=1) h;go_wp2_with fail;refine(b.ne' (sz w) (aB)).lf (aE · 0) ?_;clear b;intro s b;have c:=b.f1;go_wp2_with fail;refine(b.ne' (sz s) (nk 0 (t.pos i) nl)).lf (bu · _ o) ?_;clear b c;intro K b;have c:=b.f2;go_wp2_with fail;refine b.lf (bu · _ p) ?_;clear b c;intro L b;have c:=b.f2;go_wp2_with fail;refine b.lf (bH · 0 dC 1) ?_;clear b c;intro M b;have c:=b.f2;go_wp2_with fail;refine b.lf (aW · 0 dC _) ?_;clear b c;intro P b;have c:=b.f2;go_wp2_with fail;refine b.lf (aW · 0 dC _) ?_;clear b c;intro R b;have c:=b.f2;go_wp2_with fail;refine b.ey (eP · _ j) ?_;clear b c;intro S b;have c:=b.f2;go_wp2_with fail;replace b:=b.fE 53;refine b.li (n · (b.bd (q.out.dA (dI h.ar h.lt j).1 h.lt) dC)) ?_;clear b c;intro T u l e V W X v Y _ b;have c:=b.f2;by_cases x:O e=1
 ·obtain⟨y,rfl,Z,aa,m,ab,ac,ad,ae,af,ag,ah,ai,rfl,aj⟩:=b.first x
  obtain⟨ak,al⟩:=b.jM m 0 Q;obtain⟨ao,ap⟩:=b.jM m 1 Q;go_wp2_with fail;go_light;exact Mz.cC (C:=λ_=>True) (d:=8) Tryz.results113 Q Q (b.ek (J (some ⟨y,0,I⟩) 1 l)).xH 1 Q (λ_=>trivial) oM Q
 ·have aq:((O e:Int)==1)=false:=by simp;omega
  go_wp2_with fail;go_light;exact((b.ek (J u (O e) l)).fk 53 (t.pos i) (lT v dC) r).rt Tryz.results113 1
end
end Go.Proofs.YtcnnibahjmekdaaGreat
