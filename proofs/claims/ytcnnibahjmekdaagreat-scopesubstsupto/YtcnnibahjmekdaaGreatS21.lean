import Derived.Test.YtcnnibahjmekdaaGreatS02
namespace Go.Proofs.YtcnnibahjmekdaaGreat
open Go.RowKit
open Value renaming slice→J
open List renaming length→O
open Option renaming none→I
open World renaming heap→U
open _root_.Array renaming size→E
open Obj renaming cells→Ob
set_option linter.all false
set_option maxRecDepth 100000
set_option maxHeartbeats 0
theorem zA {k:Nat} (q:fj 114 15 k):fj 110 16 (k+1):=by
 intro w D F G i b l V h r;have W:=h.l;have s:Hid (Bd (k+1) b i l 16):=r;clear r;have X:(0:Int)<=(b.pos i:Int)/\(b.pos i:Int)<=7000:=oH (h.ar.aO i);go_enter Tryz.func110,Tryz.ntmps110
 have a:=Mz.start (wt:=1) h;go_wp2_with fail;replace a:=a.ne' (sz w) (aB);refine a.nd (q · (s.out.down a.le a.ok dC)) ?_;clear a;intro t u v x H Y _ a;have d:=a.f1;go_wp2_with fail;go_loopg [4] (ml b v x) (λg _ wr=>∃(m:Nf) (c:Nat) (j y:Int),g=ml b c j/\Mz 1 w D F G b i l True (-8) wr c j y [(sz t,m.a),(sz w,aB)] [m.t] nl [])
 case atStart=>exact⟨u,v,x,H,Q,(a.ne' (sz t) u.a).less oM⟩
 case round=>
  clear d a;obtain⟨m,c,j,y,z,a⟩:=hrel;have K:=a.st.rd.lt;have n:(0:Int)<=(b.pos c:Int)/\(b.pos c:Int)<=7000:=oH (h.ar.aO c);have L:Hid (gk=ml b c j):=z;clear z;have d:=a.f2
  cases M:(j==0)
  ·go_wp2_with fail;refine a.lf aV ?_;clear a d;intro Z a;have d:=a.f2;go_wp2_with fail;go_light;exact a.rt Tryz.results110 1
  ·obtain rfl:j=0:=sU M;have f:Hid (i<=c/\l=0/\i<c):=⟨a.le,a.ok Q,a.go trivial Q⟩;have N:Hid (∀o A p,c<=o->p<64->Bd k b o A p):=λo A p P R=>s.out.dA f.out.2.1 h.lt _ _ _ (λ_=>Nat.lt_of_lt_of_le f.out.2.2 P) R;replace a:=a.bU;go_wp2_with fail;refine a.lf aV ?_;clear a d;intro aa a;have d:=a.f2;go_wp2_with fail;refine a.lf (aW · 0 dC _) ?_;clear a d;intro ab a;have d:=a.f2;go_wp2_with fail
   ·go_wp2_with fail;refine a.lf (aE · 30) ?_;clear a d;intro S a;have d:=a.f2;go_wp2_with fail;refine(a.ne' (sz S) (nk 30 (b.pos c) nl)).wn (aH · _) ?_;clear a d;intro ac ad ae af _ a;have d:=a.f3;go_wp2_with fail;go_region_law (replace a:=a.drew;go_simp;refine a.nd (q · (N.out _ _ _ a.le dC)) ?_;clear a d;intro e ag B C T ah _ a;have d:=a.f3)
    all_goals
     go_wp2_with fail;go_roundg (ml b B C)
     case measure=>rw[L.out];exact bO K ((((a.swap).ek (sl (sz e) 2)).nh 30 (b.pos c) 0 0 ⟨#[]⟩ (sl (sz e) 2)).l2 (sz e) 30 (b.pos c) 0 0 ⟨#[]⟩ n).pop.le (((((a.swap).ek (sl (sz e) 2)).nh 30 (b.pos c) 0 0 ⟨#[]⟩ (sl (sz e) 2)).l2 (sz e) 30 (b.pos c) 0 0 ⟨#[]⟩ n).pop.go trivial)
     case rel=>exact⟨⟨30,(b.pos c),0,0,⟨#[]⟩,(some ⟨(sz e),0,I⟩),2,2⟩,B,C,T,Q,((((a.swap).ek (sl (sz e) 2)).nh 30 (b.pos c) 0 0 ⟨#[]⟩ (sl (sz e) 2)).l2 (sz e) 30 (b.pos c) 0 0 ⟨#[]⟩ n).pop.aD (s':= -8) (g':=True) f.out.1 (λ_=>f.out.2.1) (λ_ _=>f.out.2.2) oM⟩
   ·go_wp2_with fail;go_light;exact(a.aD (s':= -8) (g':=True) f.out.1 (λ_=>f.out.2.1) (λ_ _=>f.out.2.2) oM).rt Tryz.results110 1
theorem u7 (i:∀j,nu 1 j):mK 1 84 False (-1) cH:=by
 intro w o p q b c r s h;have t:=h.l;have k:(0:Int)<=(c.pos b:Int)/\(c.pos b:Int)<=7000:=oH (h.ar.aO b);go_enter Tryz.func84,Tryz.ntmps84
 have a:=Mz.start (wt:=1) h;go_wp2_with fail;refine(a.ne' (sz w) (aB)).lf (aE · 15) ?_;clear a;intro l a;have e:=a.f1;go_wp2_with fail;refine(a.ne' (sz l) (nk 15 (c.pos b) nl)).et (aR · _) ?_;clear a e;intro u v x y a;have e:=a.f2;go_wp2_with fail
 ·go_wp2_with fail;refine a.nd (i _ · (fN _ _ _ 3)) ?_;clear a e;intro z A B D F m _ a;have e:=a.f2;go_wp2_with fail;go_light;exact Mz.cC (C:=cH) (d:= -1) Tryz.results84 Q Q (a.up (g':=False) (λf=>f.elim)) 1 Q m oM Q
 ·go_wp2_with fail;go_light;exact Mz.cC (C:=cH) (d:= -1) Tryz.results84 Q Q (a.lk 15 (c.pos b) 0 0 ⟨#[]⟩ k dC (λ_=>Gr.nU (λf n=>by cases n))) 1 Q (λ_=>⟨by show(13:Int)<=15;decide,by show(15:Int)<=18;decide⟩) oM Q
theorem qR {e:Nat} (x:qw 3 e) {w:World} {rb m n i:Nat} {t:Tk} {k a:Int} (h:Rd w rb m n t i k a) (o:Bd (e+1) t i k 3) (y:bW t i k 0 ⟨#[105,110,116]⟩=false) (z:bW t i k 0 ⟨#[98,111,111,108]⟩=false) (A:bW t i k 0 ⟨#[40]⟩=false) (S:bW t i k 0 ⟨#[38]⟩=false) (T:bW t i k 0 ⟨#[38,38]⟩=false) (B:bW t i k 0 ⟨#[102,110]⟩=false):Calls Tryz.prog 81 #[.pointer (some ⟨rb,0,I⟩)] w (aY 3 w rb m n t i k True 8 cH):=by
 have V:=h.l;have D:Hid (Bd (e+1) t i k 3):=o;clear o;have p:(0:Int)<=(t.pos i:Int)/\(t.pos i:Int)<=7000:=oH (h.ar.aO i);go_enter Tryz.func81,Tryz.ntmps81
 have W:=dK;have X:(i:Int)<(t.len:Int):=oH h.lt;have Y:(t.len:Int)<=6001:=oH h.ar.bB;have b:=Mz.start (wt:=3) h;go_wp2_with fail;refine(b.ne' (sz w) (aB)).lf (aE · 0) ?_;clear b;intro F b;have c:=b.f1;go_wp2_with fail;refine(b.ne' (sz F) (nk 0 (t.pos i) nl)).lf (bu · _ y) ?_;clear b c;intro Z b;have c:=b.f2;go_wp2_with fail;refine b.lf (bu · _ z) ?_;clear b c;intro aa b;have c:=b.f2;go_wp2_with fail;refine b.lf (bu · _ A) ?_;clear b c;intro ab b;have c:=b.f2;go_wp2_with fail;refine b.lf (aW · 0 dC _) ?_;clear b c;intro ac b;have c:=b.f2;go_wp2_with fail;refine b.lf (aW · 0 dC _) ?_;clear b c;intro ad b;have c:=b.f2;go_wp2_with fail;refine b.lf (bu · _ B) ?_;clear b c;intro ae b;have c:=b.f2;go_wp2_with fail;refine(b.fE 18).nm (jy · 2 dC dC) ?_;clear b c;intro af j ag ah ai q r aj b;have c:=b.f2;go_wp2_with fail;refine(b.gI j).et (aR · _) ?_;clear b c;intro ak al ao G b;have c:=b.f2;go_wp2_with fail
 ·have H:Hid (∀s u v,(u=0->i<s)->v<64->Bd e t s u v):=D.out.dA (b.ok (G.yes ‹_›).2) h.lt;go_wp2_with fail;refine b.li (x · (b.bd H.out dC)) ?_;clear b c;intro ap K L M aq ar au N P R b;have c:=b.f2;go_wp2_with fail;go_light;exact Mz.cC (C:=cH) (d:=8) Tryz.results81 Q Q ((b.ek (J K (O M) L)).fo 18 (t.pos i) 0 0 j (lT N dC) p q (λf=>Gr.mH ⟨r (R.out f),P f⟩)) 1 Q (λ_=>⟨by show(13:Int)<=18;decide,by show(18:Int)<=18;decide⟩) oM Q
 ·go_wp2_with fail;go_light;exact Mz.cC (C:=cH) (d:=8) Tryz.results81 Q Q (b.lk 18 (t.pos i) 0 0 j p q (λf=>Gr.mH ⟨r f,[],[],Q,(λ_ l=>by cases l),(λ_ l=>by cases l)⟩)) 1 Q (λ_=>⟨by show(13:Int)<=18;decide,by show(18:Int)<=18;decide⟩) oM Q
theorem vw {t:Tk} {i:Nat} {k:Int} {s:ByteArray} (b:t.Good) (h:bW t i k 1 s=true):i+2<t.len:=by
 simp[bW] at h;obtain⟨_,e,f,_⟩:=h;rcases Nat.lt_or_ge (i+2) t.len with a|a
 ·exact a
 ·have c:i+1=t.len - 1:=oM;have d:=b.last;rw[<-c] at d;omega
theorem rX (z:∀A,nu 1 A):tL 100 False λ_=>True:=by
 intro w m n o e t j B h;have V:=h.l;go_enter Tryz.func100,Tryz.ntmps100
 have W:(e:Int)<(t.len:Int):=oH h.lt;have X:(t.len:Int)<=6001:=oH h.ar.bB;have a:=Mz.start (wt:=1) h
 cases p:bW t e j 0 ⟨#[58,58]⟩
 ·go_wp2_with fail;refine a.lf (aW · 0 dC _) ?_;clear a;intro Y a;go_wp2_with fail;go_ret;exact Mz.post (d:=0) a (λb=>b.elim) sQ (λ_=>trivial) oM
 ·cases q:bW t e j 1 ⟨#[60]⟩
  ·go_wp2_with fail;refine a.lf (aW · 0 dC _) ?_;clear a;intro Z a;go_wp2_with fail;refine a.lf (aW · 1 dC _) ?_;clear a;intro aa a;go_wp2_with fail;go_ret;exact Mz.post (d:=0) a (λb=>b.elim) sQ (λ_=>trivial) oM
  ·have C:e+2<t.len:=vw h.ar q;have ab:Hid (j=0):=(dI h.ar h.lt p).1;go_wp2_with fail;refine a.lf (aW · 0 dC _) ?_;clear a;intro ac a;go_wp2_with fail;refine a.lf (aW · 1 dC _) ?_;clear a;intro ad a;have D:=a.st.rd.r1;have F:=a.st.rd.fz 1;have G:=a.st.rd.l;go_wp2_with fail;go_loopg [3] (ml t (e+2) j) (λg H wr=>∃(f:List (List Value)) (c:Nat) (i l:Int),g=ml t c i/\ez 0 f c i/\(i=0->(λ_=>True) (f.map aA))/\Mz 1 w m n o t e j False (-16) wr c i l [] [] H f)
   case atStart=>exact⟨[],(e+2),j,B,Q,⟨λ_=>by simp,sQ⟩,(λae=>trivial),((a.jE (j':=e+2) C oM).up (λb=>b.elim)).less oM⟩
   case round=>
    clear D F G a;obtain⟨f,c,i,l,r,hF,s,a⟩:=hrel;have u:Hid (i=0->(λ_=>True) (f.map aA)):=s;clear s;have v:=a.st.rd.lt;have af:(0:Int)<=(t.pos c:Int)/\(t.pos c:Int)<=7000:=oH (h.ar.aO c);have K:Hid (gk=ml t c i):=r;clear r;obtain⟨L,M,rfl⟩:=a.shape
    cases N:(i==0)
    ·go_wp2_with fail;refine a.lf aV ?_;clear a;intro ag a;go_wp2_with fail;go_ret;exact Mz.post (d:=0) a (λb=>b.elim) hF.2 (λ_=>trivial) oM
    ·obtain rfl:i=0:=sU N;have k:Hid (e<=c/\j=0):=⟨a.le,a.ok Q⟩;replace u:Hid ((λ_=>True) (f.map aA)):=u.out Q;have P:O f<=6001:=oI (hF.1 Q) h.ar.bB;replace a:Mz 1 w m n o t c 0 False (16*((c:Int) - (e:Int))+(-16)) wr c 0 l [] [] (J L (O f) M) f:=a.bU.less oM;go_wp2_with fail;refine a.lf aV ?_;clear a;intro ah a;go_wp2_with fail;refine a.nd (z _ · (fN _ _ _ 3)) ?_;clear a;intro R S ai aj ak al _ a;go_wp2_with (at_builtin;refine a.ap (sz R) (lT P dC) ?_;clear a;intro ao ap aq a)
     go_wp2_with fail;refine a.et (aR · _) ?_;clear a;intro ar au av aw a;go_wp2_with fail
     ·go_wp2_with fail;go_ret;exact Mz.post (d:=0) (a.aD (i':=e) (k':=j) (g':=False) (s':= -24) k.out.1 (λ_=>k.out.2) (λb=>b.elim) oM) (λb=>b.elim) (by have p:=hF.1 rfl;have q:=h.ar.bB;simp only[List.length_append,List.length_cons,List.length_nil];omega) (λ_=>trivial) oM
     ·go_wp2_with fail;refine a.wn (aH · _) ?_;clear a;intro ax x y T ay a;go_wp2_with fail;go_roundg (ml t x y)
      case measure=>rw[K.out];exact bO v a.le (a.go trivial)
      case rel=>exact⟨(f++[S.t]),x,y,T,Q,ez.snoc (t:=t) hF Q v h.ar (a.go trivial),(λ_=>trivial),a.aD (s':= -16) k.out.1 (λ_=>k.out.2) (λb=>b.elim) oM⟩
end Go.Proofs.YtcnnibahjmekdaaGreat
