import Derived.Test.YtcnnibahjmekdaaGreatS02
namespace Go.Proofs.YtcnnibahjmekdaaGreat
open Go.RowKit
open Value renaming slice→J
open List renaming length→O
open Option renaming none→I
open World renaming heap→U
open _root_.Array renaming size→E
open Obj renaming cells→Ob
set_option linter.all false
set_option maxRecDepth 100000
set_option maxHeartbeats 0
theorem yJ {z:Nat} (H:nu 3 z) (aa:mK 3 96 True 8 λx=>x=19):qw 3 (z+1):=by
 intro w s u v j t l ab h K;have az:=h.l;have G:Hid (Bd (z+1) t j l 4):=K;clear K;go_enter Tryz.func99,Tryz.ntmps99
 have a:=Mz.start (wt:=3) h;go_wp2_with fail;go_loopg [3] (ml t j l) (λg B wr=>∃(c:List (List Value)) (b:Nat) (e m:Int),g=ml t b e/\ez 0 c b e/\(e=0->(λC=>∀x∈C,x=19) (c.map aA))/\Mz 3 w s u v t j l False (0) wr b e m [] [] B c)
 case atStart=>exact⟨[],j,l,ab,Q,⟨λ_=>by simp,sQ⟩,(λf=>(λx ac=>by cases ac)),(a.up (λx=>x.elim)).less oM⟩
 case round=>
  clear a;obtain⟨c,b,e,m,p,hF,q,a⟩:=hrel;have k:Hid (e=0->(λC=>∀x∈C,x=19) (c.map aA)):=q;clear q;have o:=a.st.rd.lt;have F:(0:Int)<=(t.pos b:Int)/\(t.pos b:Int)<=7000:=oH (h.ar.aO b);have y:Hid (gk=ml t b e):=p;clear p;obtain⟨L,M,rfl⟩:=a.shape
  cases n:(e==0)
  ·go_wp2_with fail;refine a.lf aV ?_;clear a;intro aB a;go_wp2_with fail;clear y n o F;go_loopg [3] (ml t b e) (λg B wr=>∃(c:List (List Value)) (b:Nat) (e m:Int),g=ml t b e/\ez 0 c b e/\(e=0->lQ (c.map aA))/\Mz 3 w s u v t j l False (0) wr b e m [] [] B c)
   case atStart=>exact⟨c,b,e,m,Q,hF,(λf=>jG (k.out f)),(a.up (λx=>x.elim)).less oM⟩
   case round=>
    clear a;obtain⟨c,b,e,m,p,hF,q,a⟩:=hrel;have k:Hid (e=0->lQ (c.map aA)):=q;clear q;have o:=a.st.rd.lt;have F:(0:Int)<=(t.pos b:Int)/\(t.pos b:Int)<=7000:=oH (h.ar.aO b);have y:Hid (gk=ml t b e):=p;clear p;obtain⟨ad,ae,rfl⟩:=a.shape
    cases n:(e==0)
    ·go_wp2_with fail;refine a.lf aV ?_;clear a;intro aC a;go_wp2_with fail;go_ret;exact Mz.post (d:=0) (a.up (g':=True) (λ_ f=>absurd f (sU n))) (λ_=>trivial) hF.2 (λf=>absurd f (sU n)) oM
    ·obtain rfl:e=0:=sU n;have i:Hid (j<=b/\l=0):=⟨a.le,a.ok Q⟩;replace k:Hid (lQ (c.map aA)):=k.out Q;have D:Hid (∀i' k',b<=i'->Bd z t i' k' 3):=λi' k' r=>G.out.down (lT a.le r) (λ_=>a.ok Q) dC;have A:O c<=6001:=oI (hF.1 Q) h.ar.bB;replace a:Mz 3 w s u v t b 0 False (16*((b:Int) - (j:Int))+(0)) wr b 0 m [] [] (J ad (O c) ae) c:=a.bU.less oM;go_wp2_with fail;refine a.lf aV ?_;clear a;intro aD a;go_wp2_with fail;refine a.nd (H · (D.out _ _ a.le)) ?_;clear a;intro af ag aE aF aG N _ a;go_wp2_with (at_builtin;refine a.ap (sz af) (lT A dC) ?_;clear a;intro aI aJ aK a)
     go_wp2_with fail;refine a.et (aR · _) ?_;clear a;intro aL aN aO aP a;go_wp2_with fail
     ·go_wp2_with fail;go_ret;exact Mz.post (d:=0) ((a.aD (i':=j) (k':=l) (g':=False) (s':= -8) i.out.1 (λ_=>i.out.2) (λx=>x.elim) oM).up (g':=True) (λ_ f=>Nat.lt_of_le_of_lt i.out.1 (a.go trivial f))) (λ_=>trivial) (by have r:=hF.1 rfl;have P:=h.ar.bB;simp only[List.length_append,List.length_cons,List.length_nil];omega) (λf=>by rw[List.map_append];exact kq k.out (N f)) oM
     ·go_wp2_with fail;refine a.wn (aH · _) ?_;clear a;intro aQ R S ah ai a;go_wp2_with fail;go_roundg (ml t R S)
      case measure=>rw[y.out];exact bO o a.le (a.go trivial)
      case rel=>exact⟨(c++[ag.t]),R,S,ah,Q,ez.snoc (t:=t) hF Q o h.ar (a.go trivial),(λf=>by rw[List.map_append];exact kq k.out (N (ai.out f))),a.aD (s':=0) i.out.1 (λ_=>i.out.2) (λx=>x.elim) oM⟩
  ·obtain rfl:e=0:=sU n;have i:Hid (j<=b/\l=0):=⟨a.le,a.ok Q⟩;replace k:Hid ((λC=>∀x∈C,x=19) (c.map aA)):=k.out Q;have D:Hid (∀i' k',b<=i'->Bd z t i' k' 3):=λi' k' r=>G.out.down (lT a.le r) (λ_=>a.ok Q) dC;have A:O c<=6001:=oI (hF.1 Q) h.ar.bB;replace a:Mz 3 w s u v t b 0 False (16*((b:Int) - (j:Int))+(0)) wr b 0 m [] [] (J L (O c) M) c:=a.bU.less oM;go_wp2_with fail;refine a.lf aV ?_;clear a;intro aS a
   cases aj:cq t b 0 0 4
   ·go_wp2_with fail;refine a.lf (bH · 0 dC 4) ?_;clear a;intro ak a;replace a:Mz 3 w s u v t j l False (0) ak b 0 m [] [] (J L (O c) M) c:=a.aD (i':=j) (k':=l) (g':=False) (s':=0) i.out.1 (λ_=>i.out.2) (λx=>x.elim) oM;go_wp2_with fail;clear y n o aj F D A i;go_loopg [3] (ml t b 0) (λg B wr=>∃(c:List (List Value)) (b:Nat) (e m:Int),g=ml t b e/\ez 0 c b e/\(e=0->lQ (c.map aA))/\Mz 3 w s u v t j l False (0) wr b e m [] [] B c)
    case atStart=>exact⟨c,b,0,m,Q,hF,(λf=>jG k.out),(a.up (λx=>x.elim)).less oM⟩
    case round=>
     clear a;obtain⟨c,b,e,m,p,hF,q,a⟩:=hrel;have k:Hid (e=0->lQ (c.map aA)):=q;clear q;have o:=a.st.rd.lt;have F:(0:Int)<=(t.pos b:Int)/\(t.pos b:Int)<=7000:=oH (h.ar.aO b);have y:Hid (gk=ml t b e):=p;clear p;obtain⟨al,ao,rfl⟩:=a.shape
     cases n:(e==0)
     ·go_wp2_with fail;refine a.lf aV ?_;clear a;intro aT a;go_wp2_with fail;go_ret;exact Mz.post (d:=0) (a.up (g':=True) (λ_ f=>absurd f (sU n))) (λ_=>trivial) hF.2 (λf=>absurd f (sU n)) oM
     ·obtain rfl:e=0:=sU n;have i:Hid (j<=b/\l=0):=⟨a.le,a.ok Q⟩;replace k:Hid (lQ (c.map aA)):=k.out Q;have D:Hid (∀i' k',b<=i'->Bd z t i' k' 3):=λi' k' r=>G.out.down (lT a.le r) (λ_=>a.ok Q) dC;have A:O c<=6001:=oI (hF.1 Q) h.ar.bB;replace a:Mz 3 w s u v t b 0 False (16*((b:Int) - (j:Int))+(0)) wr b 0 m [] [] (J al (O c) ao) c:=a.bU.less oM;go_wp2_with fail;refine a.lf aV ?_;clear a;intro aU a;go_wp2_with fail;refine a.nd (H · (D.out _ _ a.le)) ?_;clear a;intro ap aq aW aX aY T _ a;go_wp2_with (at_builtin;refine a.ap (sz ap) (lT A dC) ?_;clear a;intro aZ a0 a1 a)
      go_wp2_with fail;refine a.et (aR · _) ?_;clear a;intro a2 a3 a4 a5 a;go_wp2_with fail
      ·go_wp2_with fail;go_ret;exact Mz.post (d:=0) ((a.aD (i':=j) (k':=l) (g':=False) (s':= -8) i.out.1 (λ_=>i.out.2) (λx=>x.elim) oM).up (g':=True) (λ_ f=>Nat.lt_of_le_of_lt i.out.1 (a.go trivial f))) (λ_=>trivial) (by have r:=hF.1 rfl;have P:=h.ar.bB;simp only[List.length_append,List.length_cons,List.length_nil];omega) (λf=>by rw[List.map_append];exact kq k.out (T f)) oM
      ·go_wp2_with fail;refine a.wn (aH · _) ?_;clear a;intro a6 V W ar au a;go_wp2_with fail;go_roundg (ml t V W)
       case measure=>rw[y.out];exact bO o a.le (a.go trivial)
       case rel=>exact⟨(c++[aq.t]),V,W,ar,Q,ez.snoc (t:=t) hF Q o h.ar (a.go trivial),(λf=>by rw[List.map_append];exact kq k.out (T (au.out f))),a.aD (s':=0) i.out.1 (λ_=>i.out.2) (λx=>x.elim) oM⟩
   ·go_wp2_with fail;refine a.lf (bH · 0 dC 4) ?_;clear a;intro a7 a;go_wp2_with fail;refine a.nd aa ?_;clear a;intro av aw a8 a9 a' X _ a;go_wp2_with (at_builtin;refine a.ap (sz av) (lT A dC) ?_;clear a;intro ba bb bc a)
    go_wp2_with fail;refine a.et (aR · _) ?_;clear a;intro bd bf bg bh a;go_wp2_with fail
    ·go_wp2_with fail;go_ret;exact Mz.post (d:=0) ((a.aD (i':=j) (k':=l) (g':=False) (s':= -8) i.out.1 (λ_=>i.out.2) (λx=>x.elim) oM).up (g':=True) (λ_ f=>Nat.lt_of_le_of_lt i.out.1 (a.go trivial f))) (λ_=>trivial) (by have r:=hF.1 rfl;have P:=h.ar.bB;simp only[List.length_append,List.length_cons,List.length_nil];omega) (λf=>jG ((λf=>by rw[List.map_append];exact aM k.out (X f)) f)) oM
    ·go_wp2_with fail;refine a.wn (aH · _) ?_;clear a;intro bi Y Z ax ay a;go_wp2_with fail;go_roundg (ml t Y Z)
     case measure=>rw[y.out];exact bO o a.le (a.go trivial)
     case rel=>exact⟨(c++[aw.t]),Y,Z,ax,Q,ez.snoc (t:=t) hF Q o h.ar (a.go trivial),(λf=>by rw[List.map_append];exact aM k.out (X (ay.out f))),a.aD (s':=0) i.out.1 (λ_=>i.out.2) (λx=>x.elim) oM⟩
theorem zx {f:Nat} (l:fj 117 14 f):fj 114 15 (f+1):=by
 intro w B C D d b u F h m;have G:=h.l;have n:Hid (Bd (f+1) b d u 15):=m;clear m;have H:(0:Int)<=(b.pos d:Int)/\(b.pos d:Int)<=7000:=oH (h.ar.aO d);go_enter Tryz.func114,Tryz.ntmps114
 have a:=Mz.start (wt:=1) h;go_wp2_with fail;replace a:=a.ne' (sz w) (aB);refine a.nd (l · (n.out.down a.le a.ok dC)) ?_;clear a;intro i j e K L M _ a;have c:=a.f1;have v:(0:Int)<=(b.pos e:Int)/\(b.pos e:Int)<=7000:=oH (h.ar.aO e);go_wp2_with fail;refine(j0 ((a.ne' (sz i) j.a).alloc _).st.rd [⟨#[61,61]⟩,⟨#[33,61]⟩,⟨#[60,61]⟩,⟨#[62,61]⟩,⟨#[60]⟩,⟨#[62]⟩] (sb:=(sz i)+1) (by have:=jZ (i.alloc (Ob j.a 46)) [⟨#[61,61]⟩,⟨#[33,61]⟩,⟨#[60,61]⟩,⟨#[62,61]⟩,⟨#[60]⟩,⟨#[62]⟩];simpa using this) sQ dC dC).mono ?_;rintro N P ⟨k,rfl,o,x,p⟩;replace a:=((a.ne' (sz i) j.a).alloc _).below o;clear o;replace c:=a.f2
 cases y:k.toList.isEmpty
 ·have z:Hid (∀q r s,(r=0->d<q)->s<64->Bd f b q r s):=n.out.dA (a.ok (dI h.ar a.st.rd.lt (p y).1).1) h.lt;clear p;go_wp2_with fail;refine a.lf (aE · 29) ?_;clear a c;intro A a;have c:=a.f2;go_wp2_with fail;refine(a.ne' (sz A) (ae 29 (b.pos e) 0 0 k nl)).wn (aH · _) ?_;clear a c;intro R S T V _ a;have c:=a.f3;go_wp2_with fail;go_region_law (replace a:=a.drew;go_simp;refine a.nd (l · (a.bd z.out dC)) ?_;clear a c;intro t W X Y Z aa _ a;have c:=a.f3)
  all_goals
   go_wp2_with fail;go_light;refine(((a.swap).ek (sl (sz t) 2)).l2 (sz t) 29 (b.pos e) 0 0 k v (lT x dC)).rt Tryz.results114 2 ?_;simp[bA,World.setCell_alloc_past,c,sL]
 ·go_wp2_with fail;go_light;exact a.rt Tryz.results114 1
theorem vg (T:∀V,nu 1 V):tL 83 True λk=>∀c∈k,c=12:=by
 intro w r s u l t v ai h;have aj:=h.l;go_enter Tryz.func83,Tryz.ntmps83
 have a:=Mz.start (wt:=1) h;go_wp2_with fail;refine a.wn (aH · _) ?_;clear a;intro ak al A W _ a;go_wp2_with fail;refine a.et (aR · _) ?_;clear a;intro ao X B ap a;go_wp2_with fail
 ·go_wp2_with fail;go_ret;exact Mz.post (d:=0) a (λ_=>trivial) sQ (λ_ c x=>by cases x) oM
 ·obtain rfl:X=false:= ‹_›;go_wp2_with fail;go_loopg [3] (ml t B A) (λg Y wr=>∃(f:List (List Value)) (b:Nat) (i m:Int),g=ml t b i/\ez 0 f b i/\(i=0->(λk=>∀c∈k,c=12) (f.map aA))/\Mz 1 w r s u t l v False (-16) wr b i m [] [] Y f)
  case atStart=>exact⟨[],B,A,W,Q,⟨λ_=>by simp,sQ⟩,(λj=>(λc x=>by cases x)),(a.up (λc=>c.elim)).less oM⟩
  case round=>
   clear a;obtain⟨f,b,i,m,C,hF,D,a⟩:=hrel;have o:Hid (i=0->(λk=>∀c∈k,c=12) (f.map aA)):=D;clear D;have F:=a.st.rd.lt;have Z:(0:Int)<=(t.pos b:Int)/\(t.pos b:Int)<=7000:=oH (h.ar.aO b);have aa:Hid (gk=ml t b i):=C;clear C;obtain⟨G,H,rfl⟩:=a.shape
   cases y:(i==0)
   ·go_wp2_with fail;refine a.lf aV ?_;clear a;intro aq a;go_wp2_with fail;go_ret;exact Mz.post (d:=0) (a.up (g':=True) (λ_ j=>absurd j (sU y))) (λ_=>trivial) hF.2 (λj=>absurd j (sU y)) oM
   ·obtain rfl:i=0:=sU y;have n:Hid (l<=b/\v=0):=⟨a.le,a.ok Q⟩;replace o:Hid ((λk=>∀c∈k,c=12) (f.map aA)):=o.out Q;have ab:O f<=6001:=oI (hF.1 Q) h.ar.bB;replace a:Mz 1 w r s u t b 0 False (16*((b:Int) - (l:Int))+(-16)) wr b 0 m [] [] (J G (O f) H) f:=a.bU.less oM;go_wp2_with fail;refine a.lf aV ?_;clear a;intro ar a;go_wp2_with fail;refine a.lf (aE · 12) ?_;clear a;intro K a;go_wp2_with fail;refine(a.ne' (sz K) (nk 12 (t.pos b) nl)).et (aR · _) ?_;clear a;intro au av L aw a;have e:=a.f1;go_upto_if 15 with fail
    go_cut [] (λac=>∃(p:Int) (M:Nat) (N P:Int),Mz 1 w r s u t b 0 False (16*((b:Int) - (l:Int))+(-16)) ac M N P [(sz K,ae 12 (t.pos b) 0 p ⟨#[]⟩ nl)] [] (J G (O f) H) f)
    case first=>
     go_wp2_with fail
     ·go_wp2_with fail;go_meet;exact⟨1,L,0,m,((a.vh 1).less oM)⟩
     ·go_wp2_with fail;go_meet;exact⟨0,L,0,m,(a.less oM)⟩
    case rest=>
     clear e a;obtain⟨p,M,N,P,a⟩:=hcut;obtain⟨ax,ad⟩:∃c,c=wc:=⟨_,Q⟩;subst ad;have e:=a.f1;go_wp2_with fail;refine a.nm cJ ?_;clear a e;intro ay z az aB aC af aD aF a;have e:=a.f1;go_wp2_with fail;refine(a.gI z).wn (aH · _) ?_;clear a e;intro aG aI aJ aK aL a;have e:=a.f1;go_wp2_with fail;refine a.nd (T _ · (fN _ _ _ 3)) ?_;clear a e;intro q aN aO aP aQ ag aS a;have e:=a.f1;go_wp2_with (at_builtin;refine((a.ek (sl (sz q) 1)).l1 (sz q) 12 (t.pos b) 0 p z Z (lT af dC) (λj=>Gr.tB ⟨_,Q,ag j⟩)).ap ((sz q)+1) (lT ab dC) ?_;clear a e;intro aT aU aW a;have e:=a.f1)
     go_wp2_with fail;refine a.et (aR · _) ?_;clear a e;intro aX aY aZ a0 a;have e:=a.f1;go_wp2_with fail
     ·go_wp2_with fail;go_ret;exact Mz.post (d:=0) ((a.aD (i':=l) (k':=v) (g':=False) (s':= -55) n.out.1 (λ_=>n.out.2) (λc=>c.elim) oM).up (g':=True) (λ_ j=>Nat.lt_of_le_of_lt n.out.1 (a.go trivial j))) (λ_=>trivial) (by have a1:=hF.1 rfl;have a2:=h.ar.bB;simp only[List.length_append,List.length_cons,List.length_nil];omega) (λ_=>by rw[List.map_append];exact aM o.out Q) oM
     ·go_wp2_with fail;refine a.wn (aH · _) ?_;clear a e;intro a3 R S ah a4 a;have e:=a.f1;go_wp2_with fail;go_roundg (ml t R S)
      case measure=>rw[aa.out];exact bO F a.pop.le (a.pop.go trivial)
      case rel=>exact⟨(f++[(ae 12 (t.pos b) 0 p z (sl (sz q) 1)).toList]),R,S,ah,Q,ez.snoc (t:=t) hF Q F h.ar (a.pop.go trivial),(λ_=>by rw[List.map_append];exact aM o.out Q),a.pop.aD (s':= -16) n.out.1 (λ_=>n.out.2) (λc=>c.elim) oM⟩
theorem sd {e:Nat} (M:qO 3 e) (N:nu 3 e) (P:mK 3 96 True 8 λx=>x=19) {w:World} {rb j l i:Nat} {t:Tk} {k a:Int} (h:Rd w rb j l t i k a) (r:Bd (e+1) t i k 3) (R:bW t i k 0 ⟨#[105,110,116]⟩=false) (S:bW t i k 0 ⟨#[98,111,111,108]⟩=false) (T:bW t i k 0 ⟨#[40]⟩=false) (ap:bW t i k 0 ⟨#[38]⟩=false) (aq:bW t i k 0 ⟨#[38,38]⟩=false) (s:bW t i k 0 ⟨#[102,110]⟩=true) (ar:cq t (i+1) k 0 4=true):Calls Tryz.prog 81 #[.pointer (some ⟨rb,0,I⟩)] w (aY 3 w rb j l t i k True 8 cH):=by
 have au:=h.l;have V:Hid (Bd (e+1) t i k 3):=r;clear r;have W:(0:Int)<=(t.pos i:Int)/\(t.pos i:Int)<=7000:=oH (h.ar.aO i);go_enter Tryz.func81,Tryz.ntmps81
 have av:=dK;have aw:(i:Int)<(t.len:Int):=oH h.lt;have ax:(t.len:Int)<=6001:=oH h.ar.bB;have b:=Mz.start (wt:=3) h;go_wp2_with fail;refine(b.ne' (sz w) (aB)).lf (aE · 0) ?_;clear b;intro u b;have c:=b.f1;go_wp2_with fail;refine(b.ne' (sz u) (nk 0 (t.pos i) nl)).lf (bu · _ R) ?_;clear b c;intro ay b;have c:=b.f2;go_wp2_with fail;refine b.lf (bu · _ S) ?_;clear b c;intro az b;have c:=b.f2;go_wp2_with fail;refine b.lf (bu · _ T) ?_;clear b c;intro aA b;have c:=b.f2;go_wp2_with fail;refine b.lf (aW · 0 dC _) ?_;clear b c;intro aC b;have c:=b.f2;go_wp2_with fail;refine b.lf (aW · 0 dC _) ?_;clear b c;intro aD b;have c:=b.f2;go_wp2_with fail;refine b.ey (eP · _ s) ?_;clear b c;intro aF b;have c:=b.f2;go_wp2_with fail;refine(b.fE 17).lf (bH · 0 dC 4) ?_;clear b c;intro aG b;have c:=b.f2;have v:Hid (∀y z A,(z=0->i<y)->A<64->Bd e t y z A):=V.out.dA (dI h.ar h.lt s).1 h.lt;go_wp2_with fail;refine(P b.st.rd).mono ?_;rintro m aI ⟨aJ,aK,aL,aN,n,aO,aP,aQ,aS,f,o,rfl,p,B,X,Y⟩;have Z:=B.name;have aT:Hid (f=0->k=0):=p.ok;replace b:=b.qi p;clear p B X Y;replace c:=b.f2;go_wp2_with fail;refine(b.gI n).et (aR · _) ?_;clear b c;intro aU aV aa aX b;have c:=b.f2;go_upto_if 47 with fail
 go_cut [] (λab=>∃(q:Int) (D:Nat) (F G:Int),Mz 3 w rb j l t i k True (-32) ab D F G [(sz u,ae 17 (t.pos i) q 0 n nl),(sz w,aB)] [] nl [])
 case first=>
  go_wp2_with fail
  ·go_wp2_with fail;go_meet;exact⟨1,aa,f,o,((b.jW 1).less oM)⟩
  ·go_wp2_with fail;refine b.et (aR · _) ?_;clear b c;intro aZ a0 H a1 b;have c:=b.f2;go_wp2_with fail
   ·go_wp2_with fail;go_meet;exact⟨2,H,f,o,((b.jW 2).less oM)⟩
   ·go_wp2_with fail;go_meet;exact⟨0,H,f,o,(b.less oM)⟩
 case rest=>
  clear c b;obtain⟨q,D,F,G,b⟩:=hcut;obtain⟨a2,ac⟩:∃x,x=wc:=⟨_,Q⟩;subst ac;have c:=b.f2;go_wp2_with fail;refine b.wn (aH · _) ?_;clear b c;intro a3 a4 a5 a6 a7 b;have c:=b.f2;go_wp2_with fail;refine b.li (M · (b.bd v.out dC) _) ?_;clear b c;intro a8 ad af K a9 a' ba L ag bb b;have c:=b.f2;go_wp2_with fail;refine(b.ek (J ad (O K) af)).wn (aH · _) ?_;clear b c;intro bc bd bf bg ah b;have c:=b.f2;go_wp2_with fail;go_region_law (first|(refine b.as (sz ai) (lT L dC) ?_;clear b c;intro bh aj ak b;have c:=b.f2)|(replace b:=b.drew;go_simp;refine b.nd (N · (b.bd v.out dC)) ?_;clear b c;intro ai bi bj bk bl al ao b;have c:=b.f2))
  all_goals
   go_wp2_with fail;go_light;exact Mz.cC (C:=cH) (d:=8) Tryz.results81 Q Q ((b.ek (J aj (O K+1) ak)).fo 17 (t.pos i) q 0 n (by have:=L;simp;omega) W Z (λm=>Gr.tD ⟨sQ,by rw[List.map_append];exact aM (ag (ah.out (ao.out m))) (al m)⟩)) 1 Q (λ_=>⟨by show(13:Int)<=17;decide,by show(17:Int)<=18;decide⟩) oM Q
end Go.Proofs.YtcnnibahjmekdaaGreat
